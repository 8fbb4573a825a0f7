/- The document's NatCmp, NatAdd. -/
import Derived.Test.YtlcpcpmlfegejaaGreatDoorQA
import Derived.Test.YtlcpcpmlfegejaaGreatDoorZ05
import Derived.Test.YtlcpcpmlfegejaaGreatDoorZRC
set_option maxHeartbeats 3200000
set_option maxRecDepth 100000
namespace Go.Proofs.YtlcpcpmlfegejaaGreatDoor
open Go.RowKit Big
structure AddInv9 (x y : List Nat) (k c : Nat) (L : List Nat) : Prop where
  len : L.length = k
  dig : Dig B9 L
  car : c ≤ 1
  eq : val B9 L + B9 ^ k * c = val B9 (x.take k) + val B9 (y.take k)
  top : k ≤ max x.length y.length ∨ (k = max x.length y.length + 1 ∧ c = 0 ∧ B9 ^ max x.length y.length ≤ val B9 x + val B9 y)
theorem AddInv9.start (x y : List Nat) : AddInv9 x y 0 0 [] := ⟨rfl, Dig.nil _, by omega, by simp [val], .inl (Nat.zero_le _)⟩
theorem AddInv9.step {x y : List Nat} {k c : Nat} {L : List Nat} (h : AddInv9 x y k c L) (dx : Dig B9 x) (dy : Dig B9 y) (a b s : Nat) (ha : x.getD k 0 = a) (hb : y.getD k 0 = b) (hs : s = c + a + b) (hg : k < max x.length y.length ∨ c = 1) :
    AddInv9 x y (k + 1) (s / 1000000000) (L ++ [s % 1000000000]) := by
  have h1 := dx.getD B9_pos k
  have h2 := dy.getD B9_pos k
  rw [ha] at h1; rw [hb] at h2
  have h3 := h.car
  have e9 := B9_eq
  refine ⟨by rw [List.length_append, h.len]; rfl, h.dig.append (Dig.one (by omega)), by omega, ?_, ?_⟩
  · rw [val_snoc, h.len, val_take_succD, val_take_succD, ha, hb, Nat.pow_succ]
    exact sum_step h.eq (by rw [B9_eq]; omega)
  · rcases h.top with h4 | ⟨_, h4, _⟩
    · by_cases h5 : k < max x.length y.length
      · exact .inl (by omega)
      · have hc : c = 1 := by omega
        have hk : k = max x.length y.length := by omega
        have ha0 : a = 0 := by rw [← ha, List.getD_eq_getElem?_getD, List.getElem?_eq_none (by omega)]; rfl
        have hb0 : b = 0 := by rw [← hb, List.getD_eq_getElem?_getD, List.getElem?_eq_none (by omega)]; rfl
        refine .inr ⟨by omega, by omega, ?_⟩
        have h6 := h.eq
        rw [hc, List.take_of_length_le (by omega), List.take_of_length_le (by omega), Nat.mul_one] at h6
        rw [← hk]; omega
    · omega
theorem AddInv9.done {x y : List Nat} {k : Nat} {L : List Nat} (h : AddInv9 x y k 0 L) (cx : Canon B9 x) (cy : Canon B9 y) (h1 : x.length ≤ k) (h2 : y.length ≤ k) : Canon B9 L ∧ val B9 L = val B9 x + val B9 y := by
  have h3 := h.eq
  rw [List.take_of_length_le (by omega), List.take_of_length_le (by omega), Nat.mul_zero, Nat.add_zero] at h3
  refine ⟨?_, h3⟩
  by_cases h0 : k = 0
  · have := h.len
    rw [h0] at this
    rw [List.eq_nil_of_length_eq_zero this]; exact Canon.nil _
  · obtain ⟨j, rfl⟩ : ∃ j, k = j + 1 := ⟨k - 1, by omega⟩
    refine Canon.of_ge h.dig h.len ?_
    rw [h3]
    rcases h.top with h4 | ⟨h4, _, h5⟩
    · by_cases h6 : x.length ≤ y.length
      · have := cy.pow_le j (by omega); omega
      · have := cx.pow_le j (by omega); omega
    · have : j = max x.length y.length := by omega
      rw [this]; exact h5
theorem natAdd_ge (p : Option Addr) (n c0 : Nat) (x : List Nat) (q : Option Addr) (m d0 : Nat) (y : List Nat) (w : World) (hn0 : n ≤ most) (hm0 : m ≤ most) (hnm : m ≤ n) (hx : Rd w p n x) (hy : Rd w q m y) (cx : Canon B9 x) (cy : Canon B9 y) :
    Calls Tryz.prog 120 #[.slice p n c0, .slice q m d0] w (Post9 (val B9 x + val B9 y) w) := by
  obtain ⟨i0, hi, hz0, hz1, hz2⟩ := info_parts info79
  have hn : (n : Int) ≤ 4294967296 := by unfold most at hn0; omega
  have hm : (m : Int) ≤ 4294967296 := by unfold most at hm0; omega
  have HX := hiD cx
  have HY := hiD cy
  clear cx cy
  have hM : Hid (n = max n m) := hiD (by omega)
  have hmax : max (n : Int) m = n := by omega
  go_enter Tryz.func120, Tryz.ntmps120
  go_wp2_with (at_make; refine wpList_make_own _ rfl _ _ 98 rfl w.heap.size 137 i0 (.int .u64 0) 1 underlying36 hi hz0 hz1 _ _ _ (n + 1) rfl rfl ?b1 ?b2 ?b3 (Nat.le_refl _) ?_)
  case b1 => omega
  case b2 => rw [hz2]; omega
  case b3 => unfold maxLen; omega
  intro w1 hown hgrow
  have hacc0 : Hid (Acc w w1 (.slice (some ⟨w.heap.size, 0, none⟩) 0 (n + 1)) []) := hiD ⟨hown, (Below.refl _ _).grown hgrow (Nat.le_refl _) (fun k h => by cases h)⟩
  clear hown hgrow
  go_wp2_with fail
  go_loopw [5, 6, 7] (fun ov cv iv wr => ∃ (k c : Nat) (L : List Nat), cv = .int .u64 c ∧ iv = .int .i64 k ∧ Hid (AddInv9 x y k c L ∧ k ≤ n + 1) ∧ Hid (Acc w wr ov L)) (fun _ _ iv _ => n + 2 - (intOf iv).toNat)
  case atStart => exact ⟨0, 0, [], rfl, rfl, hiD ⟨AddInv9.start x y, Nat.zero_le _⟩, hacc0⟩
  case round =>
    obtain ⟨k, c, L, rfl, rfl, hinv, hacc⟩ := hrel
    obtain ⟨po, no, co, rfl⟩ : ∃ p n c, u5 = .slice p n c := by
      obtain ⟨p, c, h, _⟩ := own_rd hacc.out.own; exact ⟨_, _, _, h⟩
    have hlx : Hid (x.length = n) := hiD hx.len
    have hly : Hid (y.length = m) := hiD hy.len
    have hlen : Hid (L.length + 1 ≤ maxLen ∧ (L.length + 1) * 8 ≤ 140737488355328 ∧ w.heap.size ≤ wr.heap.size + 1) := hiD (by
      have h1 := hinv.out.1.len
      have h2 := hinv.out.2
      have h := hacc.out.below.size
      unfold maxLen; omega)
    have hcb : (c : Int) ≤ 1 := by have := hinv.out.1.car; omega
    have hkb : (k : Int) ≤ 4294967298 := by have := hinv.out.2; omega
    by_cases h1 : k < n
    · have e1 : (k : Int) < n := by omega
      by_cases h2 : k < m
      · have e2 : (k : Int) < m := by omega
        obtain ⟨b1, o1, a, rfl, hb1, hc1, ha⟩ := hx.at (k := k) (by omega)
        have g1 : wr.cell? ⟨b1, o1 + k, none⟩ = some (.int .u64 (a : Int)) := (hacc.out.below.cell (p := ⟨b1, o1 + k, none⟩) hb1).trans hc1
        have da : (a : Int) ≤ 999999999 := by have h := HX.out.1.getD B9_pos k; rw [ha.out, B9_eq] at h; omega
        obtain ⟨b2, o2, b, rfl, hb2, hc2, hb⟩ := hy.at (k := k) (by omega)
        have g2 : wr.cell? ⟨b2, o2 + k, none⟩ = some (.int .u64 (b : Int)) := (hacc.out.below.cell (p := ⟨b2, o2 + k, none⟩) hb2).trans hc2
        have db : (b : Int) ≤ 999999999 := by have h := HY.out.1.getD B9_pos k; rw [hb.out, B9_eq] at h; omega
        have hstep := hiD (hinv.out.1.step HX.out.1 HY.out.1 a b (c + a + b) ha.out hb.out (by omega) (by rw [hlx.out, hly.out]; omega))
        obtain ⟨s1, hs1⟩ : ∃ s1 : Nat, Hid (s1 = (c + a + b) % 1000000000) := ⟨_, hiD rfl⟩
        rw [← hs1.out] at hstep
        have hw1 : ((c : Int) + a + b) % 1000000000 = (s1 : Int) := by rw [hs1.out]; omega
        have hk1 : k ≤ n := by rw [hM.out]; have := hinv.out.1.top; rw [hlx.out, hly.out] at this; omega
        go_wp2_with (at_builtin; refine wpList_append_own _ rfl (.tmp 51) (.tmp 54) 98 rfl w.heap.size 137 i0 (.int .u64 0) 1 8 underlying36 hi hz0 hz1 hz2 rfl (by decide) _ _ _ rfl ((hacc.out.own).alloc _) ⟨_, 0, none⟩ 1 1 [.int .u64 (s1 : Int)] rfl rfl (cell_one_new _ _ _) (by intro u hu; simp at hu; subst hu; rfl) hlen.out.1 hlen.out.2.1 (by simp; exact hlen.out.2.2) ?_)
        intro v5 w5 hown5 hgrow5 _
        have hnext := hiD (hacc.out.next rfl hown5 hgrow5)
        clear hown5 hgrow5
        go_wp2_with fail
        go_roundw
        case rel => exact ⟨k + 1, _, _, rfl, by go_num, hiD ⟨hstep.out, by omega⟩, hnext⟩
        case measure => simp [intOf]; omega
      · have e2 : ¬ (k : Int) < m := by omega
        obtain ⟨b1, o1, a, rfl, hb1, hc1, ha⟩ := hx.at (k := k) (by omega)
        have g1 : wr.cell? ⟨b1, o1 + k, none⟩ = some (.int .u64 (a : Int)) := (hacc.out.below.cell (p := ⟨b1, o1 + k, none⟩) hb1).trans hc1
        have da : (a : Int) ≤ 999999999 := by have h := HX.out.1.getD B9_pos k; rw [ha.out, B9_eq] at h; omega
        obtain ⟨b, hb, hb0⟩ : ∃ b, Hid (y.getD k 0 = b) ∧ b = 0 := ⟨_, hiD rfl, by rw [List.getD_eq_getElem?_getD, List.getElem?_eq_none (by rw [hly.out]; omega)]; rfl⟩
        have hstep := hiD (hinv.out.1.step HX.out.1 HY.out.1 a b (c + a) ha.out hb.out (by omega) (by rw [hlx.out, hly.out]; omega))
        obtain ⟨s1, hs1⟩ : ∃ s1 : Nat, Hid (s1 = (c + a) % 1000000000) := ⟨_, hiD rfl⟩
        rw [← hs1.out] at hstep
        have hw1 : ((c : Int) + a) % 1000000000 = (s1 : Int) := by rw [hs1.out]; omega
        clear hb0
        have hk1 : k ≤ n := by rw [hM.out]; have := hinv.out.1.top; rw [hlx.out, hly.out] at this; omega
        go_wp2_with (at_builtin; refine wpList_append_own _ rfl (.tmp 51) (.tmp 54) 98 rfl w.heap.size 137 i0 (.int .u64 0) 1 8 underlying36 hi hz0 hz1 hz2 rfl (by decide) _ _ _ rfl ((hacc.out.own).alloc _) ⟨_, 0, none⟩ 1 1 [.int .u64 (s1 : Int)] rfl rfl (cell_one_new _ _ _) (by intro u hu; simp at hu; subst hu; rfl) hlen.out.1 hlen.out.2.1 (by simp; exact hlen.out.2.2) ?_)
        intro v5 w5 hown5 hgrow5 _
        have hnext := hiD (hacc.out.next rfl hown5 hgrow5)
        clear hown5 hgrow5
        go_wp2_with fail
        go_roundw
        case rel => exact ⟨k + 1, _, _, rfl, by go_num, hiD ⟨hstep.out, by omega⟩, hnext⟩
        case measure => simp [intOf]; omega
    · have e1 : ¬ (k : Int) < n := by omega
      by_cases h2 : k < m
      · have e2 : (k : Int) < m := by omega
        omega
      · have e2 : ¬ (k : Int) < m := by omega
        by_cases h3 : c = 0
        · subst h3
          have hfin : Hid (Post9 (val B9 x + val B9 y) w (.returned (.slice po no co)) wr) := hiD (by
            obtain ⟨g1, g2⟩ := hinv.out.1.done HX.out HY.out (by rw [hlx.out]; omega) (by rw [hly.out]; omega)
            rw [← g2]; exact hacc.out.nat g1)
          go_wp2_with fail
          go_ret
          exact hfin.out
        · have e3 : (0 : Int) < c := by omega
          obtain ⟨a, ha, ha0⟩ : ∃ a, Hid (x.getD k 0 = a) ∧ a = 0 := ⟨_, hiD rfl, by rw [List.getD_eq_getElem?_getD, List.getElem?_eq_none (by rw [hlx.out]; omega)]; rfl⟩
          obtain ⟨b, hb, hb0⟩ : ∃ b, Hid (y.getD k 0 = b) ∧ b = 0 := ⟨_, hiD rfl, by rw [List.getD_eq_getElem?_getD, List.getElem?_eq_none (by rw [hly.out]; omega)]; rfl⟩
          obtain rfl : c = 1 := by omega
          have hstep := hiD (hinv.out.1.step HX.out.1 HY.out.1 a b 1 ha.out hb.out (by omega) (by omega))
          rw [show 1 / 1000000000 = 0 from rfl, show 1 % 1000000000 = 1 from rfl] at hstep
          clear ha0 hb0
          have hk1 : k ≤ n := by rw [hM.out]; have := hinv.out.1.top; rw [hlx.out, hly.out] at this; omega
          go_wp2_with (at_builtin; refine wpList_append_own _ rfl (.tmp 51) (.tmp 54) 98 rfl w.heap.size 137 i0 (.int .u64 0) 1 8 underlying36 hi hz0 hz1 hz2 rfl (by decide) _ _ _ rfl ((hacc.out.own).alloc _) ⟨_, 0, none⟩ 1 1 [.int .u64 1] rfl rfl (cell_one_new _ _ _) (by intro u hu; simp at hu; subst hu; rfl) hlen.out.1 hlen.out.2.1 (by simp; exact hlen.out.2.2) ?_)
          intro v5 w5 hown5 hgrow5 _
          have hnext := hiD (hacc.out.next (x := 1) rfl hown5 hgrow5)
          clear hown5 hgrow5
          go_wp2_with fail
          go_roundw
          case rel => exact ⟨k + 1, 0, _, rfl, by go_num, hiD ⟨hstep.out, by omega⟩, hnext⟩
          case measure => simp [intOf]; omega
theorem natAdd_lt (p : Option Addr) (n c0 : Nat) (x : List Nat) (q : Option Addr) (m d0 : Nat) (y : List Nat) (w : World) (hn0 : n ≤ most) (hm0 : m ≤ most) (hnm : n < m) (hx : Rd w p n x) (hy : Rd w q m y) (cx : Canon B9 x) (cy : Canon B9 y) :
    Calls Tryz.prog 120 #[.slice p n c0, .slice q m d0] w (Post9 (val B9 x + val B9 y) w) := by
  obtain ⟨i0, hi, hz0, hz1, hz2⟩ := info_parts info79
  have hn : (n : Int) ≤ 4294967296 := by unfold most at hn0; omega
  have hm : (m : Int) ≤ 4294967296 := by unfold most at hm0; omega
  have HX := hiD cx
  have HY := hiD cy
  clear cx cy
  have hM : Hid (m = max n m) := hiD (by omega)
  have hmax : max (n : Int) m = m := by omega
  go_enter Tryz.func120, Tryz.ntmps120
  go_wp2_with (at_make; refine wpList_make_own _ rfl _ _ 98 rfl w.heap.size 137 i0 (.int .u64 0) 1 underlying36 hi hz0 hz1 _ _ _ (m + 1) rfl rfl ?b1 ?b2 ?b3 (Nat.le_refl _) ?_)
  case b1 => omega
  case b2 => rw [hz2]; omega
  case b3 => unfold maxLen; omega
  intro w1 hown hgrow
  have hacc0 : Hid (Acc w w1 (.slice (some ⟨w.heap.size, 0, none⟩) 0 (m + 1)) []) := hiD ⟨hown, (Below.refl _ _).grown hgrow (Nat.le_refl _) (fun k h => by cases h)⟩
  clear hown hgrow
  go_wp2_with fail
  go_loopw [5, 6, 7] (fun ov cv iv wr => ∃ (k c : Nat) (L : List Nat), cv = .int .u64 c ∧ iv = .int .i64 k ∧ Hid (AddInv9 x y k c L ∧ k ≤ m + 1) ∧ Hid (Acc w wr ov L)) (fun _ _ iv _ => m + 2 - (intOf iv).toNat)
  case atStart => exact ⟨0, 0, [], rfl, rfl, hiD ⟨AddInv9.start x y, Nat.zero_le _⟩, hacc0⟩
  case round =>
    obtain ⟨k, c, L, rfl, rfl, hinv, hacc⟩ := hrel
    obtain ⟨po, no, co, rfl⟩ : ∃ p n c, u5 = .slice p n c := by
      obtain ⟨p, c, h, _⟩ := own_rd hacc.out.own; exact ⟨_, _, _, h⟩
    have hlx : Hid (x.length = n) := hiD hx.len
    have hly : Hid (y.length = m) := hiD hy.len
    have hlen : Hid (L.length + 1 ≤ maxLen ∧ (L.length + 1) * 8 ≤ 140737488355328 ∧ w.heap.size ≤ wr.heap.size + 1) := hiD (by
      have h1 := hinv.out.1.len
      have h2 := hinv.out.2
      have h := hacc.out.below.size
      unfold maxLen; omega)
    have hcb : (c : Int) ≤ 1 := by have := hinv.out.1.car; omega
    have hkb : (k : Int) ≤ 4294967298 := by have := hinv.out.2; omega
    by_cases h1 : k < n
    · have e1 : (k : Int) < n := by omega
      by_cases h2 : k < m
      · have e2 : (k : Int) < m := by omega
        obtain ⟨b1, o1, a, rfl, hb1, hc1, ha⟩ := hx.at (k := k) (by omega)
        have g1 : wr.cell? ⟨b1, o1 + k, none⟩ = some (.int .u64 (a : Int)) := (hacc.out.below.cell (p := ⟨b1, o1 + k, none⟩) hb1).trans hc1
        have da : (a : Int) ≤ 999999999 := by have h := HX.out.1.getD B9_pos k; rw [ha.out, B9_eq] at h; omega
        obtain ⟨b2, o2, b, rfl, hb2, hc2, hb⟩ := hy.at (k := k) (by omega)
        have g2 : wr.cell? ⟨b2, o2 + k, none⟩ = some (.int .u64 (b : Int)) := (hacc.out.below.cell (p := ⟨b2, o2 + k, none⟩) hb2).trans hc2
        have db : (b : Int) ≤ 999999999 := by have h := HY.out.1.getD B9_pos k; rw [hb.out, B9_eq] at h; omega
        have hstep := hiD (hinv.out.1.step HX.out.1 HY.out.1 a b (c + a + b) ha.out hb.out (by omega) (by rw [hlx.out, hly.out]; omega))
        obtain ⟨s1, hs1⟩ : ∃ s1 : Nat, Hid (s1 = (c + a + b) % 1000000000) := ⟨_, hiD rfl⟩
        rw [← hs1.out] at hstep
        have hw1 : ((c : Int) + a + b) % 1000000000 = (s1 : Int) := by rw [hs1.out]; omega
        have hk1 : k ≤ m := by rw [hM.out]; have := hinv.out.1.top; rw [hlx.out, hly.out] at this; omega
        go_wp2_with (at_builtin; refine wpList_append_own _ rfl (.tmp 51) (.tmp 54) 98 rfl w.heap.size 137 i0 (.int .u64 0) 1 8 underlying36 hi hz0 hz1 hz2 rfl (by decide) _ _ _ rfl ((hacc.out.own).alloc _) ⟨_, 0, none⟩ 1 1 [.int .u64 (s1 : Int)] rfl rfl (cell_one_new _ _ _) (by intro u hu; simp at hu; subst hu; rfl) hlen.out.1 hlen.out.2.1 (by simp; exact hlen.out.2.2) ?_)
        intro v5 w5 hown5 hgrow5 _
        have hnext := hiD (hacc.out.next rfl hown5 hgrow5)
        clear hown5 hgrow5
        go_wp2_with fail
        go_roundw
        case rel => exact ⟨k + 1, _, _, rfl, by go_num, hiD ⟨hstep.out, by omega⟩, hnext⟩
        case measure => simp [intOf]; omega
      · have e2 : ¬ (k : Int) < m := by omega
        omega
    · have e1 : ¬ (k : Int) < n := by omega
      by_cases h2 : k < m
      · have e2 : (k : Int) < m := by omega
        obtain ⟨a, ha, ha0⟩ : ∃ a, Hid (x.getD k 0 = a) ∧ a = 0 := ⟨_, hiD rfl, by rw [List.getD_eq_getElem?_getD, List.getElem?_eq_none (by rw [hlx.out]; omega)]; rfl⟩
        obtain ⟨b2, o2, b, rfl, hb2, hc2, hb⟩ := hy.at (k := k) (by omega)
        have g2 : wr.cell? ⟨b2, o2 + k, none⟩ = some (.int .u64 (b : Int)) := (hacc.out.below.cell (p := ⟨b2, o2 + k, none⟩) hb2).trans hc2
        have db : (b : Int) ≤ 999999999 := by have h := HY.out.1.getD B9_pos k; rw [hb.out, B9_eq] at h; omega
        have hstep := hiD (hinv.out.1.step HX.out.1 HY.out.1 a b (c + b) ha.out hb.out (by omega) (by rw [hlx.out, hly.out]; omega))
        obtain ⟨s1, hs1⟩ : ∃ s1 : Nat, Hid (s1 = (c + b) % 1000000000) := ⟨_, hiD rfl⟩
        rw [← hs1.out] at hstep
        have hw1 : ((c : Int) + b) % 1000000000 = (s1 : Int) := by rw [hs1.out]; omega
        clear ha0
        have hk1 : k ≤ m := by rw [hM.out]; have := hinv.out.1.top; rw [hlx.out, hly.out] at this; omega
        go_wp2_with (at_builtin; refine wpList_append_own _ rfl (.tmp 51) (.tmp 54) 98 rfl w.heap.size 137 i0 (.int .u64 0) 1 8 underlying36 hi hz0 hz1 hz2 rfl (by decide) _ _ _ rfl ((hacc.out.own).alloc _) ⟨_, 0, none⟩ 1 1 [.int .u64 (s1 : Int)] rfl rfl (cell_one_new _ _ _) (by intro u hu; simp at hu; subst hu; rfl) hlen.out.1 hlen.out.2.1 (by simp; exact hlen.out.2.2) ?_)
        intro v5 w5 hown5 hgrow5 _
        have hnext := hiD (hacc.out.next rfl hown5 hgrow5)
        clear hown5 hgrow5
        go_wp2_with fail
        go_roundw
        case rel => exact ⟨k + 1, _, _, rfl, by go_num, hiD ⟨hstep.out, by omega⟩, hnext⟩
        case measure => simp [intOf]; omega
      · have e2 : ¬ (k : Int) < m := by omega
        by_cases h3 : c = 0
        · subst h3
          have hfin : Hid (Post9 (val B9 x + val B9 y) w (.returned (.slice po no co)) wr) := hiD (by
            obtain ⟨g1, g2⟩ := hinv.out.1.done HX.out HY.out (by rw [hlx.out]; omega) (by rw [hly.out]; omega)
            rw [← g2]; exact hacc.out.nat g1)
          go_wp2_with fail
          go_ret
          exact hfin.out
        · have e3 : (0 : Int) < c := by omega
          obtain ⟨a, ha, ha0⟩ : ∃ a, Hid (x.getD k 0 = a) ∧ a = 0 := ⟨_, hiD rfl, by rw [List.getD_eq_getElem?_getD, List.getElem?_eq_none (by rw [hlx.out]; omega)]; rfl⟩
          obtain ⟨b, hb, hb0⟩ : ∃ b, Hid (y.getD k 0 = b) ∧ b = 0 := ⟨_, hiD rfl, by rw [List.getD_eq_getElem?_getD, List.getElem?_eq_none (by rw [hly.out]; omega)]; rfl⟩
          obtain rfl : c = 1 := by omega
          have hstep := hiD (hinv.out.1.step HX.out.1 HY.out.1 a b 1 ha.out hb.out (by omega) (by omega))
          rw [show 1 / 1000000000 = 0 from rfl, show 1 % 1000000000 = 1 from rfl] at hstep
          clear ha0 hb0
          have hk1 : k ≤ m := by rw [hM.out]; have := hinv.out.1.top; rw [hlx.out, hly.out] at this; omega
          go_wp2_with (at_builtin; refine wpList_append_own _ rfl (.tmp 51) (.tmp 54) 98 rfl w.heap.size 137 i0 (.int .u64 0) 1 8 underlying36 hi hz0 hz1 hz2 rfl (by decide) _ _ _ rfl ((hacc.out.own).alloc _) ⟨_, 0, none⟩ 1 1 [.int .u64 1] rfl rfl (cell_one_new _ _ _) (by intro u hu; simp at hu; subst hu; rfl) hlen.out.1 hlen.out.2.1 (by simp; exact hlen.out.2.2) ?_)
          intro v5 w5 hown5 hgrow5 _
          have hnext := hiD (hacc.out.next (x := 1) rfl hown5 hgrow5)
          clear hown5 hgrow5
          go_wp2_with fail
          go_roundw
          case rel => exact ⟨k + 1, 0, _, rfl, by go_num, hiD ⟨hstep.out, by omega⟩, hnext⟩
          case measure => simp [intOf]; omega
theorem natAdd_nat (u v : Value) (a b K : Nat) (w : World) (hK : K ≤ most) (ha : a < B9 ^ K) (hb : b < B9 ^ K) (hu : Nat9 w u a) (hv : Nat9 w v b) : Calls Tryz.prog 120 #[u, v] w (Post9 (a + b) w) := by
  obtain ⟨p, n, c, x, rfl, h1, h2, h3, h4⟩ := hu
  obtain ⟨q, m, d, y, rfl, g1, g2, g3, g4⟩ := hv
  have hn := pow9 h3 h4 ha h2
  have hm := pow9 g3 g4 hb g2
  rw [← h4, ← g4]
  by_cases hnm : m ≤ n
  · exact natAdd_ge p n c x q m d y w (by omega) (by omega) hnm h2 g2 h3 g3
  · exact natAdd_lt p n c x q m d y w (by omega) (by omega) (by omega) h2 g2 h3 g3
end Go.Proofs.YtlcpcpmlfegejaaGreatDoor
