/- The document's NatCmp, NatAdd. -/
import Derived.Test.YtigidchicloleaaGreatDoorQA
import Derived.Test.YtigidchicloleaaGreatDoorY05
import Derived.Test.YtigidchicloleaaGreatDoorY10
import Derived.Deep.RegionHeld3
import Derived.Deep.RegionWith
set_option maxHeartbeats 3200000
set_option maxRecDepth 100000
namespace Go.Proofs.YtigidchicloleaaGreatDoor
open Go.RowKit Big
theorem natAdd_ge (p : Option Addr) (n c0 : Nat) (x : List Nat) (q : Option Addr) (m d0 : Nat) (y : List Nat) (w : World) (hn0 : n ≤ most) (hm0 : m ≤ most) (hnm : m ≤ n) (hx : Rd w p n x) (hy : Rd w q m y) (cx : Canon B9 x) (cy : Canon B9 y) :
    Calls Tryz.prog 151 #[.slice p n c0, .slice q m d0] w (Post9 (val B9 x + val B9 y) w) := by
  obtain ⟨i0, hi, hz0, hz1, hz2⟩ := info_parts info79
  have hn : (n : Int) ≤ 4294967296 := by unfold most at hn0; omega
  have hm : (m : Int) ≤ 4294967296 := by unfold most at hm0; omega
  have HX := hiD cx
  have HY := hiD cy
  clear cx cy
  have hM : Hid (n = max n m) := hiD (by omega)
  have hmax : max (n : Int) m = n := by omega
  go_enter Tryz.func151, Tryz.ntmps151
  go_wp2_with (at_make; refine wpList_make_own _ rfl _ _ 110 rfl w.heap.size 151 i0 (.int .u64 0) 1 underlying36 hi hz0 hz1 _ _ _ (n + 1) rfl rfl ?b1 ?b2 ?b3 (Nat.le_refl _) ?_)
  case b1 => omega
  case b2 => rw [hz2]; omega
  case b3 => unfold maxLen; omega
  intro w1 hown hgrow
  have hacc0 : Hid (Acc w w1 (.slice (some ⟨w.heap.size, 0, none⟩) 0 (n + 1)) []) := hiD ⟨hown, (Below.refl _ _).grown hgrow (Nat.le_refl _) (fun k h => by cases h)⟩
  clear hown hgrow
  go_wp2_with fail
  go_loopw [5, 6, 7] (fun ov cv iv wr => ∃ (k c : Nat) (L : List Nat), cv = .int .u64 c ∧ iv = .int .i64 k ∧ Hid (AddInv9 x y k c L ∧ k ≤ n + 1) ∧ Hid (Acc w wr ov L)) (fun _ _ iv _ => n + 2 - (intOf iv).toNat)
  case atStart => exact ⟨0, 0, [], rfl, rfl, hiD ⟨AddInv9.start x y, Nat.zero_le _⟩, hacc0⟩
  case round =>
    obtain ⟨k, c, L, rfl, rfl, hinv, hacc⟩ := hrel
    obtain ⟨po, no, co, rfl⟩ : ∃ p n c, u5 = .slice p n c := by
      obtain ⟨p, c, h, _⟩ := own_rd hacc.out.own; exact ⟨_, _, _, h⟩
    have hlx : Hid (x.length = n) := hiD hx.len
    have hly : Hid (y.length = m) := hiD hy.len
    have hlen : Hid (L.length + 1 ≤ maxLen ∧ (L.length + 1) * 8 ≤ 140737488355328 ∧ w.heap.size ≤ wr.heap.size + 1) := hiD (by
      have h1 := hinv.out.1.len
      have h2 := hinv.out.2
      have h := hacc.out.below.size
      unfold maxLen; omega)
    have hcb : (c : Int) ≤ 1 := by have := hinv.out.1.car; omega
    have hkb : (k : Int) ≤ 4294967298 := by have := hinv.out.2; omega
    by_cases h1 : k < n
    · have e1 : (k : Int) < n := by omega
      by_cases h2 : k < m
      · have e2 : (k : Int) < m := by omega
        obtain ⟨b1, o1, a, rfl, hb1, hc1, ha⟩ := hx.at (k := k) (by omega)
        have g1 : wr.cell? ⟨b1, o1 + k, none⟩ = some (.int .u64 (a : Int)) := (hacc.out.below.cell (p := ⟨b1, o1 + k, none⟩) hb1).trans hc1
        have da : (a : Int) ≤ 999999999 := by have h := HX.out.1.getD B9_pos k; rw [ha.out, B9_eq] at h; omega
        obtain ⟨b2, o2, b, rfl, hb2, hc2, hb⟩ := hy.at (k := k) (by omega)
        have g2 : wr.cell? ⟨b2, o2 + k, none⟩ = some (.int .u64 (b : Int)) := (hacc.out.below.cell (p := ⟨b2, o2 + k, none⟩) hb2).trans hc2
        have db : (b : Int) ≤ 999999999 := by have h := HY.out.1.getD B9_pos k; rw [hb.out, B9_eq] at h; omega
        have hstep := hiD (hinv.out.1.step HX.out.1 HY.out.1 a b (c + a + b) ha.out hb.out (by omega) (by rw [hlx.out, hly.out]; omega))
        obtain ⟨s1, hs1⟩ : ∃ s1 : Nat, Hid (s1 = (c + a + b) % 1000000000) := ⟨_, hiD rfl⟩
        rw [← hs1.out] at hstep
        have hw1 : ((c : Int) + a + b) % 1000000000 = (s1 : Int) := by rw [hs1.out]; omega
        have hk1 : k ≤ n := by rw [hM.out]; have := hinv.out.1.top; rw [hlx.out, hly.out] at this; omega
        go_wp2_with (at_builtin; refine wpList_append_own _ rfl (.tmp 51) (.tmp 54) 110 rfl w.heap.size 151 i0 (.int .u64 0) 1 8 underlying36 hi hz0 hz1 hz2 rfl (by decide) _ _ _ rfl ((hacc.out.own).alloc _) ⟨_, 0, none⟩ 1 1 [.int .u64 (s1 : Int)] rfl rfl (cell_one_new _ _ _) (by intro u hu; simp at hu; subst hu; rfl) hlen.out.1 hlen.out.2.1 (by simp; exact hlen.out.2.2) ?_)
        intro v5 w5 hown5 hgrow5 _
        have hnext := hiD (hacc.out.next rfl hown5 hgrow5)
        clear hown5 hgrow5
        go_wp2_with fail
        go_roundw
        case rel => exact ⟨k + 1, _, _, rfl, by go_num, hiD ⟨hstep.out, by omega⟩, hnext⟩
        case measure => simp [intOf]; omega
      · have e2 : ¬ (k : Int) < m := by omega
        obtain ⟨b1, o1, a, rfl, hb1, hc1, ha⟩ := hx.at (k := k) (by omega)
        have g1 : wr.cell? ⟨b1, o1 + k, none⟩ = some (.int .u64 (a : Int)) := (hacc.out.below.cell (p := ⟨b1, o1 + k, none⟩) hb1).trans hc1
        have da : (a : Int) ≤ 999999999 := by have h := HX.out.1.getD B9_pos k; rw [ha.out, B9_eq] at h; omega
        obtain ⟨b, hb, hb0⟩ : ∃ b, Hid (y.getD k 0 = b) ∧ b = 0 := ⟨_, hiD rfl, by rw [List.getD_eq_getElem?_getD, List.getElem?_eq_none (by rw [hly.out]; omega)]; rfl⟩
        have hstep := hiD (hinv.out.1.step HX.out.1 HY.out.1 a b (c + a) ha.out hb.out (by omega) (by rw [hlx.out, hly.out]; omega))
        obtain ⟨s1, hs1⟩ : ∃ s1 : Nat, Hid (s1 = (c + a) % 1000000000) := ⟨_, hiD rfl⟩
        rw [← hs1.out] at hstep
        have hw1 : ((c : Int) + a) % 1000000000 = (s1 : Int) := by rw [hs1.out]; omega
        clear hb0
        have hk1 : k ≤ n := by rw [hM.out]; have := hinv.out.1.top; rw [hlx.out, hly.out] at this; omega
        go_wp2_with (at_builtin; refine wpList_append_own _ rfl (.tmp 51) (.tmp 54) 110 rfl w.heap.size 151 i0 (.int .u64 0) 1 8 underlying36 hi hz0 hz1 hz2 rfl (by decide) _ _ _ rfl ((hacc.out.own).alloc _) ⟨_, 0, none⟩ 1 1 [.int .u64 (s1 : Int)] rfl rfl (cell_one_new _ _ _) (by intro u hu; simp at hu; subst hu; rfl) hlen.out.1 hlen.out.2.1 (by simp; exact hlen.out.2.2) ?_)
        intro v5 w5 hown5 hgrow5 _
        have hnext := hiD (hacc.out.next rfl hown5 hgrow5)
        clear hown5 hgrow5
        go_wp2_with fail
        go_roundw
        case rel => exact ⟨k + 1, _, _, rfl, by go_num, hiD ⟨hstep.out, by omega⟩, hnext⟩
        case measure => simp [intOf]; omega
    · have e1 : ¬ (k : Int) < n := by omega
      by_cases h2 : k < m
      · have e2 : (k : Int) < m := by omega
        omega
      · have e2 : ¬ (k : Int) < m := by omega
        by_cases h3 : c = 0
        · subst h3
          have hfin : Hid (Post9 (val B9 x + val B9 y) w (.returned (.slice po no co)) wr) := hiD (by
            obtain ⟨g1, g2⟩ := hinv.out.1.done HX.out HY.out (by rw [hlx.out]; omega) (by rw [hly.out]; omega)
            rw [← g2]; exact hacc.out.nat g1)
          go_wp2_with fail
          go_ret
          exact hfin.out
        · have e3 : (0 : Int) < c := by omega
          obtain ⟨a, ha, ha0⟩ : ∃ a, Hid (x.getD k 0 = a) ∧ a = 0 := ⟨_, hiD rfl, by rw [List.getD_eq_getElem?_getD, List.getElem?_eq_none (by rw [hlx.out]; omega)]; rfl⟩
          obtain ⟨b, hb, hb0⟩ : ∃ b, Hid (y.getD k 0 = b) ∧ b = 0 := ⟨_, hiD rfl, by rw [List.getD_eq_getElem?_getD, List.getElem?_eq_none (by rw [hly.out]; omega)]; rfl⟩
          obtain rfl : c = 1 := by omega
          have hstep := hiD (hinv.out.1.step HX.out.1 HY.out.1 a b 1 ha.out hb.out (by omega) (by omega))
          rw [show 1 / 1000000000 = 0 from rfl, show 1 % 1000000000 = 1 from rfl] at hstep
          clear ha0 hb0
          have hk1 : k ≤ n := by rw [hM.out]; have := hinv.out.1.top; rw [hlx.out, hly.out] at this; omega
          go_wp2_with (at_builtin; refine wpList_append_own _ rfl (.tmp 51) (.tmp 54) 110 rfl w.heap.size 151 i0 (.int .u64 0) 1 8 underlying36 hi hz0 hz1 hz2 rfl (by decide) _ _ _ rfl ((hacc.out.own).alloc _) ⟨_, 0, none⟩ 1 1 [.int .u64 1] rfl rfl (cell_one_new _ _ _) (by intro u hu; simp at hu; subst hu; rfl) hlen.out.1 hlen.out.2.1 (by simp; exact hlen.out.2.2) ?_)
          intro v5 w5 hown5 hgrow5 _
          have hnext := hiD (hacc.out.next (x := 1) rfl hown5 hgrow5)
          clear hown5 hgrow5
          go_wp2_with fail
          go_roundw
          case rel => exact ⟨k + 1, 0, _, rfl, by go_num, hiD ⟨hstep.out, by omega⟩, hnext⟩
          case measure => simp [intOf]; omega
theorem natAdd_lt (p : Option Addr) (n c0 : Nat) (x : List Nat) (q : Option Addr) (m d0 : Nat) (y : List Nat) (w : World) (hn0 : n ≤ most) (hm0 : m ≤ most) (hnm : n < m) (hx : Rd w p n x) (hy : Rd w q m y) (cx : Canon B9 x) (cy : Canon B9 y) :
    Calls Tryz.prog 151 #[.slice p n c0, .slice q m d0] w (Post9 (val B9 x + val B9 y) w) := by
  obtain ⟨i0, hi, hz0, hz1, hz2⟩ := info_parts info79
  have hn : (n : Int) ≤ 4294967296 := by unfold most at hn0; omega
  have hm : (m : Int) ≤ 4294967296 := by unfold most at hm0; omega
  have HX := hiD cx
  have HY := hiD cy
  clear cx cy
  have hM : Hid (m = max n m) := hiD (by omega)
  have hmax : max (n : Int) m = m := by omega
  go_enter Tryz.func151, Tryz.ntmps151
  go_wp2_with (at_make; refine wpList_make_own _ rfl _ _ 110 rfl w.heap.size 151 i0 (.int .u64 0) 1 underlying36 hi hz0 hz1 _ _ _ (m + 1) rfl rfl ?b1 ?b2 ?b3 (Nat.le_refl _) ?_)
  case b1 => omega
  case b2 => rw [hz2]; omega
  case b3 => unfold maxLen; omega
  intro w1 hown hgrow
  have hacc0 : Hid (Acc w w1 (.slice (some ⟨w.heap.size, 0, none⟩) 0 (m + 1)) []) := hiD ⟨hown, (Below.refl _ _).grown hgrow (Nat.le_refl _) (fun k h => by cases h)⟩
  clear hown hgrow
  go_wp2_with fail
  go_loopw [5, 6, 7] (fun ov cv iv wr => ∃ (k c : Nat) (L : List Nat), cv = .int .u64 c ∧ iv = .int .i64 k ∧ Hid (AddInv9 x y k c L ∧ k ≤ m + 1) ∧ Hid (Acc w wr ov L)) (fun _ _ iv _ => m + 2 - (intOf iv).toNat)
  case atStart => exact ⟨0, 0, [], rfl, rfl, hiD ⟨AddInv9.start x y, Nat.zero_le _⟩, hacc0⟩
  case round =>
    obtain ⟨k, c, L, rfl, rfl, hinv, hacc⟩ := hrel
    obtain ⟨po, no, co, rfl⟩ : ∃ p n c, u5 = .slice p n c := by
      obtain ⟨p, c, h, _⟩ := own_rd hacc.out.own; exact ⟨_, _, _, h⟩
    have hlx : Hid (x.length = n) := hiD hx.len
    have hly : Hid (y.length = m) := hiD hy.len
    have hlen : Hid (L.length + 1 ≤ maxLen ∧ (L.length + 1) * 8 ≤ 140737488355328 ∧ w.heap.size ≤ wr.heap.size + 1) := hiD (by
      have h1 := hinv.out.1.len
      have h2 := hinv.out.2
      have h := hacc.out.below.size
      unfold maxLen; omega)
    have hcb : (c : Int) ≤ 1 := by have := hinv.out.1.car; omega
    have hkb : (k : Int) ≤ 4294967298 := by have := hinv.out.2; omega
    by_cases h1 : k < n
    · have e1 : (k : Int) < n := by omega
      by_cases h2 : k < m
      · have e2 : (k : Int) < m := by omega
        obtain ⟨b1, o1, a, rfl, hb1, hc1, ha⟩ := hx.at (k := k) (by omega)
        have g1 : wr.cell? ⟨b1, o1 + k, none⟩ = some (.int .u64 (a : Int)) := (hacc.out.below.cell (p := ⟨b1, o1 + k, none⟩) hb1).trans hc1
        have da : (a : Int) ≤ 999999999 := by have h := HX.out.1.getD B9_pos k; rw [ha.out, B9_eq] at h; omega
        obtain ⟨b2, o2, b, rfl, hb2, hc2, hb⟩ := hy.at (k := k) (by omega)
        have g2 : wr.cell? ⟨b2, o2 + k, none⟩ = some (.int .u64 (b : Int)) := (hacc.out.below.cell (p := ⟨b2, o2 + k, none⟩) hb2).trans hc2
        have db : (b : Int) ≤ 999999999 := by have h := HY.out.1.getD B9_pos k; rw [hb.out, B9_eq] at h; omega
        have hstep := hiD (hinv.out.1.step HX.out.1 HY.out.1 a b (c + a + b) ha.out hb.out (by omega) (by rw [hlx.out, hly.out]; omega))
        obtain ⟨s1, hs1⟩ : ∃ s1 : Nat, Hid (s1 = (c + a + b) % 1000000000) := ⟨_, hiD rfl⟩
        rw [← hs1.out] at hstep
        have hw1 : ((c : Int) + a + b) % 1000000000 = (s1 : Int) := by rw [hs1.out]; omega
        have hk1 : k ≤ m := by rw [hM.out]; have := hinv.out.1.top; rw [hlx.out, hly.out] at this; omega
        go_wp2_with (at_builtin; refine wpList_append_own _ rfl (.tmp 51) (.tmp 54) 110 rfl w.heap.size 151 i0 (.int .u64 0) 1 8 underlying36 hi hz0 hz1 hz2 rfl (by decide) _ _ _ rfl ((hacc.out.own).alloc _) ⟨_, 0, none⟩ 1 1 [.int .u64 (s1 : Int)] rfl rfl (cell_one_new _ _ _) (by intro u hu; simp at hu; subst hu; rfl) hlen.out.1 hlen.out.2.1 (by simp; exact hlen.out.2.2) ?_)
        intro v5 w5 hown5 hgrow5 _
        have hnext := hiD (hacc.out.next rfl hown5 hgrow5)
        clear hown5 hgrow5
        go_wp2_with fail
        go_roundw
        case rel => exact ⟨k + 1, _, _, rfl, by go_num, hiD ⟨hstep.out, by omega⟩, hnext⟩
        case measure => simp [intOf]; omega
      · have e2 : ¬ (k : Int) < m := by omega
        omega
    · have e1 : ¬ (k : Int) < n := by omega
      by_cases h2 : k < m
      · have e2 : (k : Int) < m := by omega
        obtain ⟨a, ha, ha0⟩ : ∃ a, Hid (x.getD k 0 = a) ∧ a = 0 := ⟨_, hiD rfl, by rw [List.getD_eq_getElem?_getD, List.getElem?_eq_none (by rw [hlx.out]; omega)]; rfl⟩
        obtain ⟨b2, o2, b, rfl, hb2, hc2, hb⟩ := hy.at (k := k) (by omega)
        have g2 : wr.cell? ⟨b2, o2 + k, none⟩ = some (.int .u64 (b : Int)) := (hacc.out.below.cell (p := ⟨b2, o2 + k, none⟩) hb2).trans hc2
        have db : (b : Int) ≤ 999999999 := by have h := HY.out.1.getD B9_pos k; rw [hb.out, B9_eq] at h; omega
        have hstep := hiD (hinv.out.1.step HX.out.1 HY.out.1 a b (c + b) ha.out hb.out (by omega) (by rw [hlx.out, hly.out]; omega))
        obtain ⟨s1, hs1⟩ : ∃ s1 : Nat, Hid (s1 = (c + b) % 1000000000) := ⟨_, hiD rfl⟩
        rw [← hs1.out] at hstep
        have hw1 : ((c : Int) + b) % 1000000000 = (s1 : Int) := by rw [hs1.out]; omega
        clear ha0
        have hk1 : k ≤ m := by rw [hM.out]; have := hinv.out.1.top; rw [hlx.out, hly.out] at this; omega
        go_wp2_with (at_builtin; refine wpList_append_own _ rfl (.tmp 51) (.tmp 54) 110 rfl w.heap.size 151 i0 (.int .u64 0) 1 8 underlying36 hi hz0 hz1 hz2 rfl (by decide) _ _ _ rfl ((hacc.out.own).alloc _) ⟨_, 0, none⟩ 1 1 [.int .u64 (s1 : Int)] rfl rfl (cell_one_new _ _ _) (by intro u hu; simp at hu; subst hu; rfl) hlen.out.1 hlen.out.2.1 (by simp; exact hlen.out.2.2) ?_)
        intro v5 w5 hown5 hgrow5 _
        have hnext := hiD (hacc.out.next rfl hown5 hgrow5)
        clear hown5 hgrow5
        go_wp2_with fail
        go_roundw
        case rel => exact ⟨k + 1, _, _, rfl, by go_num, hiD ⟨hstep.out, by omega⟩, hnext⟩
        case measure => simp [intOf]; omega
      · have e2 : ¬ (k : Int) < m := by omega
        by_cases h3 : c = 0
        · subst h3
          have hfin : Hid (Post9 (val B9 x + val B9 y) w (.returned (.slice po no co)) wr) := hiD (by
            obtain ⟨g1, g2⟩ := hinv.out.1.done HX.out HY.out (by rw [hlx.out]; omega) (by rw [hly.out]; omega)
            rw [← g2]; exact hacc.out.nat g1)
          go_wp2_with fail
          go_ret
          exact hfin.out
        · have e3 : (0 : Int) < c := by omega
          obtain ⟨a, ha, ha0⟩ : ∃ a, Hid (x.getD k 0 = a) ∧ a = 0 := ⟨_, hiD rfl, by rw [List.getD_eq_getElem?_getD, List.getElem?_eq_none (by rw [hlx.out]; omega)]; rfl⟩
          obtain ⟨b, hb, hb0⟩ : ∃ b, Hid (y.getD k 0 = b) ∧ b = 0 := ⟨_, hiD rfl, by rw [List.getD_eq_getElem?_getD, List.getElem?_eq_none (by rw [hly.out]; omega)]; rfl⟩
          obtain rfl : c = 1 := by omega
          have hstep := hiD (hinv.out.1.step HX.out.1 HY.out.1 a b 1 ha.out hb.out (by omega) (by omega))
          rw [show 1 / 1000000000 = 0 from rfl, show 1 % 1000000000 = 1 from rfl] at hstep
          clear ha0 hb0
          have hk1 : k ≤ m := by rw [hM.out]; have := hinv.out.1.top; rw [hlx.out, hly.out] at this; omega
          go_wp2_with (at_builtin; refine wpList_append_own _ rfl (.tmp 51) (.tmp 54) 110 rfl w.heap.size 151 i0 (.int .u64 0) 1 8 underlying36 hi hz0 hz1 hz2 rfl (by decide) _ _ _ rfl ((hacc.out.own).alloc _) ⟨_, 0, none⟩ 1 1 [.int .u64 1] rfl rfl (cell_one_new _ _ _) (by intro u hu; simp at hu; subst hu; rfl) hlen.out.1 hlen.out.2.1 (by simp; exact hlen.out.2.2) ?_)
          intro v5 w5 hown5 hgrow5 _
          have hnext := hiD (hacc.out.next (x := 1) rfl hown5 hgrow5)
          clear hown5 hgrow5
          go_wp2_with fail
          go_roundw
          case rel => exact ⟨k + 1, 0, _, rfl, by go_num, hiD ⟨hstep.out, by omega⟩, hnext⟩
          case measure => simp [intOf]; omega
theorem natAdd_nat (u v : Value) (a b K : Nat) (w : World) (hK : K ≤ most) (ha : a < B9 ^ K) (hb : b < B9 ^ K) (hu : Nat9 w u a) (hv : Nat9 w v b) : Calls Tryz.prog 151 #[u, v] w (Post9 (a + b) w) := by
  obtain ⟨p, n, c, x, rfl, h1, h2, h3, h4⟩ := hu
  obtain ⟨q, m, d, y, rfl, g1, g2, g3, g4⟩ := hv
  have hn := pow9 h3 h4 ha h2
  have hm := pow9 g3 g4 hb g2
  rw [← h4, ← g4]
  by_cases hnm : m ≤ n
  · exact natAdd_ge p n c x q m d y w (by omega) (by omega) hnm h2 g2 h3 g3
  · exact natAdd_lt p n c x q m d y w (by omega) (by omega) (by omega) h2 g2 h3 g3
end Go.Proofs.YtigidchicloleaaGreatDoor
set_option maxHeartbeats 3200000
set_option maxRecDepth 100000
namespace Go.Proofs.YtigidchicloleaaGreatDoor
open Go.RowKit Big
def sgnQ (q : Rat) : Int := if q.num < 0 then -1 else if q.num = 0 then 0 else 1
theorem sgn_any (x : Value) (q : Rat) (w : World) (hx : QAt w x q) : Calls Tryz.prog 131 #[x] w fun e w' => e = .returned (.int .i64 (sgnQ q)) ∧ Below w.heap.size w w' := by
  obtain ⟨p, n, c, p2, n2, c2, rfl, hu, -⟩ := hx.slices
  have hz := hu.zero_iff (n := n)
  by_cases h0 : q.num = 0
  · have hs : Hid (sgnQ q = 0) := hiD (by unfold sgnQ; rw [h0]; rfl)
    have hn : n = 0 := hz.2 (by rw [h0]; rfl)
    subst hn
    have hd : decide (q.num < 0) = false := by rw [h0]; rfl
    rw [hd]
    clear hu hz h0 hx hd
    go_enter Tryz.func131, Tryz.ntmps131
    go_wp2_with fail
    go_ret
    exact ⟨by rw [hs.out]; rfl, below_alloc9 _ _⟩
  · have hn0 : ((n : Int) == 0) = false := by simp; omega
    by_cases h1 : q.num < 0
    · have hs : Hid (sgnQ q = -1) := hiD (by unfold sgnQ; rw [if_pos h1])
      have hd : decide (q.num < 0) = true := by simpa using h1
      rw [hd]
      clear hu hz h0 h1 hx hd
      go_enter Tryz.func131, Tryz.ntmps131
      go_wp2_with fail
      go_ret
      exact ⟨by rw [hs.out]; rfl, below_alloc9 _ _⟩
    · have hs : Hid (sgnQ q = 1) := hiD (by unfold sgnQ; rw [if_neg h1, if_neg h0])
      have hd : decide (q.num < 0) = false := by simpa using h1
      rw [hd]
      clear hu hz h0 h1 hx hd
      go_enter Tryz.func131, Tryz.ntmps131
      go_wp2_with fail
      go_ret
      exact ⟨by rw [hs.out]; rfl, below_alloc9 _ _⟩
theorem opp_any (x : Value) (q : Rat) (w : World) (hx : QAt w x q) : Calls Tryz.prog 154 #[x] w (QPost (-q) w) := by
  obtain ⟨p, n, c, p2, n2, c2, rfl, hu, hv⟩ := hx.slices
  have hz := hu.zero_iff (n := n)
  have hpost : ∀ f W, f = decide ((-q).num < 0) → Below w.heap.size w W → QPost (-q) w (.returned (.agg #[.bool f, .slice p n c, .slice p2 n2 c2])) W := by
    rintro f W rfl hW
    refine ⟨_, rfl, ⟨_, _, rfl, ?_, ?_⟩, hW⟩
    · rw [Rat.neg_num, Int.natAbs_neg]; exact hu.below hW
    · rw [Rat.neg_den]; exact hv.imp (·.below hW) fun h => ⟨h.1.below hW, h.2⟩
  have Hpost := hiD hpost
  have hW : ∀ o1 o2, Hid (Below w.heap.size w ((w.alloc o1).alloc o2)) := fun o1 o2 => hiD ((below_alloc9 w o1).trans ((below_alloc9 _ o2).mono (below_alloc9 w o1).size))
  by_cases h1 : q.num < 0
  · have hd : decide (q.num < 0) = true := by simpa using h1
    have hf : Hid (false = decide ((-q).num < 0)) := hiD (by rw [Rat.neg_num]; symm; simp; omega)
    rw [hd]
    clear hu hv hz hx hpost h1 hd
    go_enter Tryz.func154, Tryz.ntmps154
    go_wp2_with fail
    refine bodyPost_ret (v := .agg #[.bool false, .slice p n c, .slice p2 n2 c2]) (by simp [results, Tryz.results154, go_sem]) rfl ?_
    exact Hpost.out _ _ hf.out (hW _ _).out
  · have hd : decide (q.num < 0) = false := by simpa using h1
    rw [hd]
    by_cases h0 : q.num = 0
    · have hn : n = 0 := hz.2 (by rw [h0]; rfl)
      subst hn
      have hf : Hid (false = decide ((-q).num < 0)) := hiD (by rw [Rat.neg_num, h0]; rfl)
      clear hu hv hz hx hpost h1 h0 hd
      go_enter Tryz.func154, Tryz.ntmps154
      go_wp2_with fail
      refine bodyPost_ret (v := .agg #[.bool false, .slice p 0 c, .slice p2 n2 c2]) (by simp [results, Tryz.results154, go_sem]) rfl ?_
      exact Hpost.out _ _ hf.out (hW _ _).out
    · have hn0 : (0 : Int) < n := by omega
      have hf : Hid (true = decide ((-q).num < 0)) := hiD (by rw [Rat.neg_num]; symm; simp; omega)
      clear hu hv hz hx hpost h1 h0 hd
      go_enter Tryz.func154, Tryz.ntmps154
      go_wp2_with fail
      refine bodyPost_ret (v := .agg #[.bool true, .slice p n c, .slice p2 n2 c2]) (by simp [results, Tryz.results154, go_sem]; omega) rfl ?_
      exact Hpost.out _ _ hf.out (hW _ _).out
end Go.Proofs.YtigidchicloleaaGreatDoor
set_option maxHeartbeats 3200000
set_option maxRecDepth 100000
namespace Go.Proofs.YtigidchicloleaaGreatDoor
open Go.RowKit Big
theorem prod_parts (a b : Rat) : ratv (decide (a.num < 0) != decide (b.num < 0)) (a.num.natAbs * b.num.natAbs) (a.den * b.den) = a * b := by
  rw [ratv_mul a.den_pos b.den_pos, ratv_self, ratv_self]
theorem quot_parts (a b : Rat) : ratv (decide (a.num < 0) != decide (b.num < 0)) (a.num.natAbs * b.den) (a.den * b.num.natAbs) = a / b := by
  by_cases h : b.num.natAbs = 0
  · have hb : b = 0 := Rat.num_eq_zero.1 (by omega)
    rw [h, Nat.mul_zero, ratv_den0, hb]; grind
  · rw [ratv_quo a.den_pos b.den_pos (by omega), ratv_self, ratv_self]
theorem prod_any (x y : Value) (a b : Rat) (K L : Nat) (w : World) (hK : K + L ≤ 900000) (hab : QLt K a) (hbb : QLt L b) (hx : QAt w x a) (hy : QAt w y b) : Calls Tryz.prog 130 #[x, y] w (QPost (a * b) w) := by
  have hdx0 : Hid (∀ W, Below w.heap.size w W → Calls Tryz.prog 149 #[x] W (Some9 a.den W)) := hiD fun W hW => den_any x a W (hx.below hW)
  have hdy0 : Hid (∀ W, Below w.heap.size w W → Calls Tryz.prog 149 #[y] W (Some9 b.den W)) := hiD fun W hW => den_any y b W (hy.below hW)
  obtain ⟨u1, v1, rfl, hu1, hv1⟩ := hx
  obtain ⟨u2, v2, rfl, hu2, hv2⟩ := hy
  obtain ⟨s, hs⟩ : ∃ s, Hid (s = decide (a.num < 0)) := ⟨_, hiD rfl⟩
  obtain ⟨t, ht⟩ : ∃ t, Hid (t = decide (b.num < 0)) := ⟨_, hiD rfl⟩
  rw [← hs.out] at hdx0 ⊢
  rw [← ht.out] at hdy0 ⊢
  have hdx := hdx0
  have hdy := hdy0
  clear hdx0 hdy0
  obtain ⟨sb, hsb⟩ : ∃ sb, Hid (sb = decide ((a * b).num < 0)) := ⟨_, hiD rfl⟩
  have hm1 : Hid (∀ W p q, Nat9 W p a.num.natAbs → Nat9 W q b.num.natAbs → Calls Tryz.prog 148 #[p, q] W (Post9 (a.num.natAbs * b.num.natAbs) W)) := hiD fun W p q h1 h2 => natMul_nat _ _ _ _ K L W (by unfold most; omega) (by unfold most; omega) hab.1 hbb.1 h1 h2
  have hm2 : Hid (∀ W p q, Nat9 W p a.den → Nat9 W q b.den → Calls Tryz.prog 148 #[p, q] W (Post9 (a.den * b.den) W)) := hiD fun W p q h1 h2 => natMul_nat _ _ _ _ K L W (by unfold most; omega) (by unfold most; omega) hab.2 hbb.2 h1 h2
  have hmk : Hid (∀ W f p q, f = (s != t) → Nat9 W p (a.num.natAbs * b.num.natAbs) → Nat9 W q (a.den * b.den) → Calls Tryz.prog 150 #[.bool f, p, q] W (QPostB (a * b) sb W)) := hiD fun W f p q hf h1 h2 => by
    have h := make_any f p q _ _ (K + L) W hK (pow9_mul hab.1 hbb.1) (pow9_mul hab.2 hbb.2) h1 h2
    have he : ratv f (a.num.natAbs * b.num.natAbs) (a.den * b.den) = a * b := by rw [hf, hs.out, ht.out]; exact prod_parts a b
    rw [he] at h
    exact h.mono fun e w' h => h.b hsb.out
  have htwo := Twa.start w s u1 v1 t u2 v2
  have Htwo := hiD htwo
  obtain ⟨-, c0, c1, c2, c3, c4, c5⟩ := htwo.all
  clear htwo hv1 hv2 hab hbb
  go_enter Tryz.func130, Tryz.ntmps130
  go_wp2_with fail
  go_region_held3 (fun w' => Twa w.heap.size s u1 v1 t u2 v2 w w' ∧ w'.cell? ⟨w.heap.size, 0, none⟩ = some (.bool s) ∧ w'.cell? ⟨w.heap.size, 1, none⟩ = some u1 ∧ w'.cell? ⟨w.heap.size, 2, none⟩ = some v1 ∧ w'.cell? ⟨w.heap.size + 1, 0, none⟩ = some (.bool t) ∧ w'.cell? ⟨w.heap.size + 1, 1, none⟩ = some u2 ∧ w'.cell? ⟨w.heap.size + 1, 2, none⟩ = some v2)
    (first | exact Twa.all (Twa.drew Htwo.out) | exact Twa.all Htwo.out | (go_split_ands; exact Twa.all (Twa.next (by assumption) hb1)) | (go_split_ands; exact Twa.all (Twa.next (by assumption) hb2)) | (go_split_ands; exact Twa.all (Twa.next (by assumption) hb3)) | (go_split_ands; exact Twa.all (Twa.next (by assumption) hb4)) | (go_split_ands; exact Twa.all (Twa.next (by assumption) hb5)) | (go_split_ands; exact Twa.all (Twa.put3 (by assumption) (Nat.le_refl _) _ _ _ _ _ _ _)) | go_keep)
    (first | (go_at_call_of 148 (u1); go_split_ands; refine (hm1.out _ _ _ (hu1.below (Twa.below (by assumption))) (hu2.below (Twa.below (by assumption)))).mono ?_; rintro e w1 ⟨vt, rfl, hvt, hb1, -⟩; obtain ⟨pt, nt, ct, rfl⟩ := hvt.slice) | (go_at_call_of 149 (Value.agg #[Value.bool s, u1, v1]); go_split_ands; refine (hdx.out _ (Twa.below (by assumption))).mono ?_; rintro e w2 ⟨px, nx, cx, rfl, hvx, hb2⟩) | (go_at_call_of 149 (Value.agg #[Value.bool t, u2, v2]); go_split_ands; refine (hdy.out _ (Twa.below (by assumption))).mono ?_; rintro e w3 ⟨py, ny, cy, rfl, hvy, hb3⟩) | (go_at_call_of 148 (Value.slice px nx cx); go_split_ands; refine (hm2.out _ _ _ (hvx.below hb3) hvy).mono ?_; rintro e w4 ⟨vb, rfl, hvb, hb4, -⟩; obtain ⟨pb, nb, cb, rfl⟩ := hvb.slice) | (go_at_call 150; go_split_ands; refine (hmk.out _ _ _ _ rfl (((hvt.below hb2).below hb3).below hb4) hvb).mono ?_; rintro e w5 ⟨pr, nr, cr, pq, nq, cq, rfl, hr1, hr2, hb5⟩; have htw := Twa.next (by assumption) hb5; obtain ⟨z0, z1, z2, k0, k1, k2, f0, f1, f2⟩ := Twa.slots htw))
  go_wp2_with fail
  have hfin := hiD (htw.fin (Nat.le_refl _) hsb.out hr1 hr2)
  refine bodyPost_ret (v := .agg #[.bool sb, .slice pr nr cr, .slice pq nq cq]) (by simp [results, Tryz.results130, go_sem, k0, k1, k2]) rfl ?_
  exact hfin.out
theorem quot_any (x y : Value) (a b : Rat) (K L : Nat) (w : World) (hK : K + L ≤ 900000) (hab : QLt K a) (hbb : QLt L b) (hx : QAt w x a) (hy : QAt w y b) : Calls Tryz.prog 132 #[x, y] w (QPost (a / b) w) := by
  have hdx0 : Hid (∀ W, Below w.heap.size w W → Calls Tryz.prog 149 #[x] W (Some9 a.den W)) := hiD fun W hW => den_any x a W (hx.below hW)
  have hdy0 : Hid (∀ W, Below w.heap.size w W → Calls Tryz.prog 149 #[y] W (Some9 b.den W)) := hiD fun W hW => den_any y b W (hy.below hW)
  obtain ⟨u1, v1, rfl, hu1, hv1⟩ := hx
  obtain ⟨u2, v2, rfl, hu2, hv2⟩ := hy
  obtain ⟨s, hs⟩ : ∃ s, Hid (s = decide (a.num < 0)) := ⟨_, hiD rfl⟩
  obtain ⟨t, ht⟩ : ∃ t, Hid (t = decide (b.num < 0)) := ⟨_, hiD rfl⟩
  rw [← hs.out] at hdx0 ⊢
  rw [← ht.out] at hdy0 ⊢
  have hdx := hdx0
  have hdy := hdy0
  clear hdx0 hdy0
  obtain ⟨sb, hsb⟩ : ∃ sb, Hid (sb = decide ((a / b).num < 0)) := ⟨_, hiD rfl⟩
  have hm1 : Hid (∀ W p q, Nat9 W p a.num.natAbs → Nat9 W q b.den → Calls Tryz.prog 148 #[p, q] W (Post9 (a.num.natAbs * b.den) W)) := hiD fun W p q h1 h2 => natMul_nat _ _ _ _ K L W (by unfold most; omega) (by unfold most; omega) hab.1 hbb.2 h1 h2
  have hm2 : Hid (∀ W p q, Nat9 W p a.den → Nat9 W q b.num.natAbs → Calls Tryz.prog 148 #[p, q] W (Post9 (a.den * b.num.natAbs) W)) := hiD fun W p q h1 h2 => natMul_nat _ _ _ _ K L W (by unfold most; omega) (by unfold most; omega) hab.2 hbb.1 h1 h2
  have hmk : Hid (∀ W f p q, f = (s != t) → Nat9 W p (a.num.natAbs * b.den) → Nat9 W q (a.den * b.num.natAbs) → Calls Tryz.prog 150 #[.bool f, p, q] W (QPostB (a / b) sb W)) := hiD fun W f p q hf h1 h2 => by
    have h := make_any f p q _ _ (K + L) W hK (pow9_mul hab.1 hbb.2) (pow9_mul hab.2 hbb.1) h1 h2
    have he : ratv f (a.num.natAbs * b.den) (a.den * b.num.natAbs) = a / b := by rw [hf, hs.out, ht.out]; exact quot_parts a b
    rw [he] at h
    exact h.mono fun e w' h => h.b hsb.out
  have htwo := Twa.start w s u1 v1 t u2 v2
  have Htwo := hiD htwo
  obtain ⟨-, c0, c1, c2, c3, c4, c5⟩ := htwo.all
  clear htwo hv1 hv2 hab hbb
  go_enter Tryz.func132, Tryz.ntmps132
  go_wp2_with fail
  go_region_held3 (fun w' => Twa w.heap.size s u1 v1 t u2 v2 w w' ∧ w'.cell? ⟨w.heap.size, 0, none⟩ = some (.bool s) ∧ w'.cell? ⟨w.heap.size, 1, none⟩ = some u1 ∧ w'.cell? ⟨w.heap.size, 2, none⟩ = some v1 ∧ w'.cell? ⟨w.heap.size + 1, 0, none⟩ = some (.bool t) ∧ w'.cell? ⟨w.heap.size + 1, 1, none⟩ = some u2 ∧ w'.cell? ⟨w.heap.size + 1, 2, none⟩ = some v2)
    (first | exact Twa.all (Twa.drew Htwo.out) | exact Twa.all Htwo.out | (go_split_ands; exact Twa.all (Twa.next (by assumption) hb1)) | (go_split_ands; exact Twa.all (Twa.next (by assumption) hb2)) | (go_split_ands; exact Twa.all (Twa.next (by assumption) hb3)) | (go_split_ands; exact Twa.all (Twa.next (by assumption) hb4)) | (go_split_ands; exact Twa.all (Twa.next (by assumption) hb5)) | (go_split_ands; exact Twa.all (Twa.put3 (by assumption) (Nat.le_refl _) _ _ _ _ _ _ _)) | go_keep)
    (first | (go_at_call_of 149 (Value.agg #[Value.bool t, u2, v2]); go_split_ands; refine (hdy.out _ (Twa.below (by assumption))).mono ?_; rintro e w1 ⟨py, ny, cy, rfl, hvy, hb1⟩) | (go_at_call_of 148 (u1); go_split_ands; refine (hm1.out _ _ _ (hu1.below (Twa.below (by assumption))) hvy).mono ?_; rintro e w2 ⟨vt, rfl, hvt, hb2, -⟩; obtain ⟨pt, nt, ct, rfl⟩ := hvt.slice) | (go_at_call_of 149 (Value.agg #[Value.bool s, u1, v1]); go_split_ands; refine (hdx.out _ (Twa.below (by assumption))).mono ?_; rintro e w3 ⟨px, nx, cx, rfl, hvx, hb3⟩) | (go_at_call_of 148 (Value.slice px nx cx); go_split_ands; refine (hm2.out _ _ _ hvx (hu2.below (Twa.below (by assumption)))).mono ?_; rintro e w4 ⟨vb, rfl, hvb, hb4, -⟩; obtain ⟨pb, nb, cb, rfl⟩ := hvb.slice) | (go_at_call 150; go_split_ands; refine (hmk.out _ _ _ _ rfl ((hvt.below hb3).below hb4) hvb).mono ?_; rintro e w5 ⟨pr, nr, cr, pq, nq, cq, rfl, hr1, hr2, hb5⟩; have htw := Twa.next (by assumption) hb5; obtain ⟨z0, z1, z2, k0, k1, k2, f0, f1, f2⟩ := Twa.slots htw))
  go_wp2_with fail
  have hfin := hiD (htw.fin (Nat.le_refl _) hsb.out hr1 hr2)
  refine bodyPost_ret (v := .agg #[.bool sb, .slice pr nr cr, .slice pq nq cq]) (by simp [results, Tryz.results132, go_sem, k0, k1, k2]) rfl ?_
  exact hfin.out
end Go.Proofs.YtigidchicloleaaGreatDoor
