/- The document's NatSub, small. -/
import Derived.Test.YtoegbjmoecbjdaaGreatDoorRD
set_option maxHeartbeats 3200000
set_option maxRecDepth 100000
namespace Go.Proofs.YtoegbjmoecbjdaaGreatDoor
open Go.RowKit Big
structure SubInv9 (x y : List Nat) (k d : Nat) (L : List Nat) : Prop where
  len : L.length = k
  dig : Dig B9 L
  owe : d ≤ 1
  eq : val B9 L + val B9 (y.take k) = val B9 (x.take k) + B9 ^ k * d
theorem SubInv9.start (x y : List Nat) : SubInv9 x y 0 0 [] := ⟨rfl, Dig.nil _, by omega, by simp [val]⟩
theorem SubInv9.step {x y : List Nat} {k d : Nat} {L : List Nat} (h : SubInv9 x y k d L) (_dx : Dig B9 x) (_dy : Dig B9 y) (a b s d' : Nat) (ha : x.getD k 0 = a) (hb : y.getD k 0 = b) (hs : s + b + d = a + 1000000000 * d') (hd : d' ≤ 1) (hs9 : s < 1000000000) :
    SubInv9 x y (k + 1) d' (L ++ [s]) := by
  refine ⟨by rw [List.length_append, h.len]; rfl, h.dig.append (Dig.one (by rw [B9_eq]; exact hs9)), hd, ?_⟩
  rw [val_snoc, h.len, val_take_succD, val_take_succD, ha, hb, Nat.pow_succ]
  exact less_step h.eq (by rw [B9_eq]; exact hs)
theorem SubInv9.done {x y : List Nat} {k d : Nat} {L : List Nat} (h : SubInv9 x y k d L) (h1 : x.length = k) (h2 : y.length ≤ k) (hle : val B9 y ≤ val B9 x) : val B9 L = val B9 x - val B9 y := by
  have h3 := h.eq
  rw [List.take_of_length_le (by omega), List.take_of_length_le (by omega)] at h3
  have h4 := val_lt L h.dig
  rw [h.len] at h4
  have h5 : d = 0 := by
    apply Nat.eq_zero_of_not_pos; intro h6
    have : B9 ^ k * 1 ≤ B9 ^ k * d := Nat.mul_le_mul_left _ h6
    omega
  subst h5
  omega
theorem natSub_any (p : Option Addr) (n c0 : Nat) (x : List Nat) (q : Option Addr) (m d0 : Nat) (y : List Nat) (w : World) (hn0 : n ≤ most) (hmn : m ≤ n) (hx : Rd w p n x) (hy : Rd w q m y) (dx : Dig B9 x) (dy : Dig B9 y) (hle : val B9 y ≤ val B9 x) :
    Calls Tryz.prog 133 #[.slice p n c0, .slice q m d0] w (Post9 (val B9 x - val B9 y) w) := by
  obtain ⟨i0, hi, hz0, hz1, hz2⟩ := info_parts info79
  have hn : (n : Int) ≤ 4294967296 := by unfold most at hn0; omega
  have hm : (m : Int) ≤ n := by omega
  have HX := hiD dx
  have HY := hiD dy
  have Hle := hiD hle
  clear dx dy hle
  go_enter Tryz.func133, Tryz.ntmps133
  go_wp2_with (at_make; refine wpList_make_own _ rfl _ _ 36 rfl w.heap.size 76 i0 (.int .u64 0) 1 underlying36 hi hz0 hz1 _ _ _ n rfl rfl rfl ?b2 ?b3 (Nat.le_refl _) ?_)
  case b2 => rw [hz2]; omega
  case b3 => unfold maxLen; omega
  intro w1 hown hgrow
  have hacc0 : Hid (Acc w w1 (.slice (some ⟨w.heap.size, 0, none⟩) 0 n) []) := hiD ⟨hown, (Below.refl _ _).grown hgrow (Nat.le_refl _) (fun k h => by cases h)⟩
  clear hown hgrow
  go_wp2_with fail
  go_loopw [5, 6, 15] (fun ov dv iv wr => ∃ (k d : Nat) (L : List Nat), dv = .int .u64 d ∧ iv = .int .i64 k ∧ Hid (SubInv9 x y k d L ∧ k ≤ n) ∧ Hid (Acc w wr ov L)) (fun _ _ iv _ => n - (intOf iv).toNat)
  case atStart => exact ⟨0, 0, [], rfl, rfl, hiD ⟨SubInv9.start x y, Nat.zero_le _⟩, hacc0⟩
  case round =>
    obtain ⟨k, d, L, rfl, rfl, hinv, hacc⟩ := hrel
    obtain ⟨po, no, co, hov, hno⟩ : ∃ p n c, u5 = .slice p n c ∧ n = L.length := by
      obtain ⟨p, c, h, _⟩ := own_rd hacc.out.own; exact ⟨_, _, _, h, rfl⟩
    have hlx : Hid (x.length = n) := hiD hx.len
    have hly : Hid (y.length = m) := hiD hy.len
    have hlen : Hid (L.length + 1 ≤ maxLen ∧ (L.length + 1) * 8 ≤ 140737488355328 ∧ w.heap.size ≤ wr.heap.size + 1) := hiD (by
      have h1 := hinv.out.1.len
      have h2 := hinv.out.2
      have h := hacc.out.below.size
      unfold maxLen; omega)
    have hkn : (k : Int) ≤ n := by have := hinv.out.2; omega
    by_cases h1 : k < n
    · subst hov
      clear hno
      have e1 : (k : Int) < n := by omega
      have hdb : (d : Int) ≤ 1 := by have := hinv.out.1.owe; omega
      obtain ⟨b1, o1, a, rfl, hb1, hc1, ha⟩ := hx.at (k := k) (by omega)
      have g1 : wr.cell? ⟨b1, o1 + k, none⟩ = some (.int .u64 (a : Int)) := (hacc.out.below.cell (p := ⟨b1, o1 + k, none⟩) hb1).trans hc1
      have da : (a : Int) ≤ 999999999 := by have h := HX.out.getD B9_pos k; rw [ha.out, B9_eq] at h; omega
      by_cases h2 : k < m
      · have e2 : (k : Int) < m := by omega
        obtain ⟨b2, o2, b, rfl, hb2, hc2, hb⟩ := hy.at (k := k) (by omega)
        have g2 : wr.cell? ⟨b2, o2 + k, none⟩ = some (.int .u64 (b : Int)) := (hacc.out.below.cell (p := ⟨b2, o2 + k, none⟩) hb2).trans hc2
        have db : (b : Int) ≤ 999999999 := by have h := HY.out.getD B9_pos k; rw [hb.out, B9_eq] at h; omega
        by_cases h3 : a < d + b
        · have e3 : ((a : Int) < (d : Int) + b) := by omega
          obtain ⟨s, hs⟩ : ∃ s : Nat, (s : Int) = (a : Int) + 1000000000 - ((d : Int) + b) := ⟨(a + 1000000000 - (d + b)), by omega⟩
          have hstep := hiD (hinv.out.1.step HX.out HY.out a b s 1 ha.out hb.out (by omega) (by omega) (by omega))
          have hw1 : (a : Int) + 1000000000 - ((d : Int) + b) = (s : Int) := by omega
          clear hs
          go_wp2_with (at_builtin; refine wpList_append_own _ rfl (.tmp 38) (.tmp 42) 36 rfl w.heap.size 76 i0 (.int .u64 0) 1 8 underlying36 hi hz0 hz1 hz2 rfl (by decide) _ _ _ rfl ((hacc.out.own).alloc _) ⟨_, 0, none⟩ 1 1 [.int .u64 (s : Int)] rfl rfl (cell_one_new _ _ _) (by intro u hu; simp at hu; subst hu; rfl) hlen.out.1 hlen.out.2.1 (by simp; exact hlen.out.2.2) ?_)
          intro v5 w5 hown5 hgrow5 _
          have hnext := hiD (hacc.out.next rfl hown5 hgrow5)
          clear hown5 hgrow5
          go_wp2_with fail
          go_roundw
          case rel => exact ⟨k + 1, _, _, rfl, by go_num, hiD ⟨hstep.out, by omega⟩, hnext⟩
          case measure => simp [intOf]; omega
        · have e3 : ¬ ((a : Int) < (d : Int) + b) := by omega
          obtain ⟨s, hs⟩ : ∃ s : Nat, (s : Int) = (a : Int) - ((d : Int) + b) := ⟨(a - (d + b)), by omega⟩
          have hstep := hiD (hinv.out.1.step HX.out HY.out a b s 0 ha.out hb.out (by omega) (by omega) (by omega))
          have hw1 : (a : Int) - ((d : Int) + b) = (s : Int) := by omega
          clear hs
          go_wp2_with (at_builtin; refine wpList_append_own _ rfl (.tmp 38) (.tmp 42) 36 rfl w.heap.size 76 i0 (.int .u64 0) 1 8 underlying36 hi hz0 hz1 hz2 rfl (by decide) _ _ _ rfl ((hacc.out.own).alloc _) ⟨_, 0, none⟩ 1 1 [.int .u64 (s : Int)] rfl rfl (cell_one_new _ _ _) (by intro u hu; simp at hu; subst hu; rfl) hlen.out.1 hlen.out.2.1 (by simp; exact hlen.out.2.2) ?_)
          intro v5 w5 hown5 hgrow5 _
          have hnext := hiD (hacc.out.next rfl hown5 hgrow5)
          clear hown5 hgrow5
          go_wp2_with fail
          go_roundw
          case rel => exact ⟨k + 1, _, _, rfl, by go_num, hiD ⟨hstep.out, by omega⟩, hnext⟩
          case measure => simp [intOf]; omega
      · have e2 : ¬ (k : Int) < m := by omega
        obtain ⟨b, hb, hb0⟩ : ∃ b, Hid (y.getD k 0 = b) ∧ b = 0 := ⟨_, hiD rfl, by rw [List.getD_eq_getElem?_getD, List.getElem?_eq_none (by rw [hly.out]; omega)]; rfl⟩
        by_cases h3 : a < d
        · have e3 : ((a : Int) < (d : Int)) := by omega
          obtain ⟨s, hs⟩ : ∃ s : Nat, (s : Int) = (a : Int) + 1000000000 - ((d : Int)) := ⟨(a + 1000000000 - (d)), by omega⟩
          have hstep := hiD (hinv.out.1.step HX.out HY.out a b s 1 ha.out hb.out (by omega) (by omega) (by omega))
          clear hb0
          have hw1 : (a : Int) + 1000000000 - ((d : Int)) = (s : Int) := by omega
          clear hs
          go_wp2_with (at_builtin; refine wpList_append_own _ rfl (.tmp 38) (.tmp 42) 36 rfl w.heap.size 76 i0 (.int .u64 0) 1 8 underlying36 hi hz0 hz1 hz2 rfl (by decide) _ _ _ rfl ((hacc.out.own).alloc _) ⟨_, 0, none⟩ 1 1 [.int .u64 (s : Int)] rfl rfl (cell_one_new _ _ _) (by intro u hu; simp at hu; subst hu; rfl) hlen.out.1 hlen.out.2.1 (by simp; exact hlen.out.2.2) ?_)
          intro v5 w5 hown5 hgrow5 _
          have hnext := hiD (hacc.out.next rfl hown5 hgrow5)
          clear hown5 hgrow5
          go_wp2_with fail
          go_roundw
          case rel => exact ⟨k + 1, _, _, rfl, by go_num, hiD ⟨hstep.out, by omega⟩, hnext⟩
          case measure => simp [intOf]; omega
        · have e3 : ¬ ((a : Int) < (d : Int)) := by omega
          obtain ⟨s, hs⟩ : ∃ s : Nat, (s : Int) = (a : Int) - ((d : Int)) := ⟨(a - (d)), by omega⟩
          have hstep := hiD (hinv.out.1.step HX.out HY.out a b s 0 ha.out hb.out (by omega) (by omega) (by omega))
          clear hb0
          have hw1 : (a : Int) - ((d : Int)) = (s : Int) := by omega
          clear hs
          go_wp2_with (at_builtin; refine wpList_append_own _ rfl (.tmp 38) (.tmp 42) 36 rfl w.heap.size 76 i0 (.int .u64 0) 1 8 underlying36 hi hz0 hz1 hz2 rfl (by decide) _ _ _ rfl ((hacc.out.own).alloc _) ⟨_, 0, none⟩ 1 1 [.int .u64 (s : Int)] rfl rfl (cell_one_new _ _ _) (by intro u hu; simp at hu; subst hu; rfl) hlen.out.1 hlen.out.2.1 (by simp; exact hlen.out.2.2) ?_)
          intro v5 w5 hown5 hgrow5 _
          have hnext := hiD (hacc.out.next rfl hown5 hgrow5)
          clear hown5 hgrow5
          go_wp2_with fail
          go_roundw
          case rel => exact ⟨k + 1, _, _, rfl, by go_num, hiD ⟨hstep.out, by omega⟩, hnext⟩
          case measure => simp [intOf]; omega
    · have hkeq : k = n := by omega
      have ht : Hid (Calls Tryz.prog 138 #[.slice po no co] wr (Post9 (val B9 x - val B9 y) w)) := hiD (by
        obtain ⟨p', c', h, hnc, hr, hf⟩ := own_rd hacc.out.own
        rw [hov] at h
        cases h
        have hval := hinv.out.1.done (by rw [hlx.out]; omega) (by rw [hly.out]; omega) Hle.out
        rw [← hval]
        exact (trim_any _ _ _ L wr (by have := hlen.out.1; omega) hnc.1 hr).mono fun _ _ h => trim_post9 hnc hf hr hinv.out.1.dig hacc.out.below h)
      subst hov
      clear hno
      go_wp2_with fail
      refine ht.out.mono ?_
      rintro e w4 ⟨v, rfl, hv⟩
      go_wp2_with fail
      go_ret
      exact ⟨v, rfl, hv⟩
theorem natSub_nat (u v : Value) (a b K : Nat) (w : World) (hK : K ≤ most) (ha : a < B9 ^ K) (hle : b ≤ a) (hu : Nat9 w u a) (hv : Nat9 w v b) : Calls Tryz.prog 133 #[u, v] w (Post9 (a - b) w) := by
  obtain ⟨p, n, c, x, rfl, h1, h2, h3, h4⟩ := hu
  obtain ⟨q, m, d, y, rfl, g1, g2, g3, g4⟩ := hv
  have hn := pow9 h3 h4 ha h2
  have hm : m ≤ n := by
    have := Canon.length_le g3 h3.1 (by rw [h4, g4]; exact hle)
    rw [h2.len, g2.len] at this; exact this
  subst h4 g4
  exact natSub_any p n c x q m d y w (by omega) hm h2 g2 h3.1 g3.1 hle
theorem small_step {q w r r' a X Y B : Nat} (h : q * w + r' = r * B + a) (hX : Y * w + r = X) : (q + B * Y) * w + r' = a + B * X := by
  subst hX; grind
def SmallPost (x d : Nat) (w : World) (e : Ending) (w' : World) : Prop :=
  ∃ v, e = .returned (.tuple #[v, .int .u64 ((x % d : Nat) : Int)]) ∧ Nat9 w' v (x / d) ∧ Below w.heap.size w w' ∧ Fresh w.heap.size v
theorem small_any (p : Option Addr) (n c : Nat) (x : List Nat) (d : Nat) (w : World) (hn0 : n ≤ most) (hx : Rd w p n x) (dx : Dig B9 x) (hd : 0 < d) (hdB : d < B9) :
    Calls Tryz.prog 174 #[.slice p n c, .int .u64 d] w (SmallPost (val B9 x) d w) := by
  obtain ⟨i0, hi, hz0, hz1, hz2⟩ := info_parts info79
  have hn : (n : Int) ≤ 4294967296 := by unfold most at hn0; omega
  go_enter Tryz.func174, Tryz.ntmps174
  go_wp2_with (at_make; refine wpList_make_full _ rfl _ _ 36 rfl w.heap.size 76 i0 (.int .u64 0) 1 underlying36 hi hz0 hz1 _ _ _ _ n rfl rfl (by omega) (by omega) ?b2 ?b3 (Nat.le_refl _) ?_)
  case b2 => rw [hz2]; unfold most at hn0; omega
  case b3 => unfold maxLen; unfold most at hn0; omega
  intro w1 hown hgrow
  have hr1 : Row w1 w.heap.size 76 (List.replicate n 0) := row_of_made hown
  have hb1 : Below w.heap.size w w1 := (Below.refl _ _).grown hgrow (Nat.le_refl _) (fun k h => by cases h)
  clear hown hgrow
  have hlx : Hid (x.length = n) := hiD hx.len
  have hd9 : (d : Int) ≤ 999999999 := by rw [B9_eq] at hdB; omega
  have hd0 : (1 : Int) ≤ d := by omega
  have hdne : ((d : Int) == 0) = false := by simp; omega
  go_wp2_with fail
  go_loopw [7, 8] (fun rv i wr => ∃ (k : Nat) (z : Int) (r : Nat) (L : List Nat), k ≤ n ∧ i = .int .i64 z ∧ z + 1 = k ∧ rv = .int .u64 r ∧ Hid (r < d ∧ L.length = n ∧ Dig B9 (L.drop k) ∧ val B9 (L.drop k) * d + r = val B9 (x.drop k)) ∧ Row wr w.heap.size 76 L ∧ Below w.heap.size w wr) (fun _ i _ => (intOf i + 1).toNat)
  case atStart => exact ⟨n, (n : Int) - 1, 0, _, Nat.le_refl _, rfl, by omega, rfl, hiD ⟨hd, by simp, by rw [List.drop_of_length_le (by simp)]; exact Dig.nil _, by rw [List.drop_of_length_le (by simp), List.drop_of_length_le (by rw [hlx.out]; omega)]; simp [val]⟩, hr1, hb1⟩
  case round =>
    obtain ⟨k, z, r, L, hk, rfl, hz, rfl, hinv, hr, hb⟩ := hrel
    by_cases h0 : k = 0
    · obtain rfl : z = -1 := by omega
      subst h0
      have hfin : Hid (val B9 L = val B9 x / d ∧ r = val B9 x % d ∧ Dig B9 L ∧ L.length = n) := by
        obtain ⟨g1, g2, g3, g4⟩ := hinv.out
        rw [List.drop_zero] at g3 g4
        rw [List.drop_zero] at g4
        refine ⟨?_, ?_, g3, g2⟩
        · rw [← g4, Nat.mul_comm, Nat.mul_add_div hd, Nat.div_eq_of_lt g1]; rfl
        · rw [← g4, Nat.mul_comm, Nat.mul_add_mod, Nat.mod_eq_of_lt g1]
      have hrd := hr.rd0 n hfin.out.2.2.2.symm
      have ht : Hid (Calls Tryz.prog 138 #[.slice (some ⟨w.heap.size, 0, none⟩) n n] wr (Post9 (val B9 L) w)) := hiD ((trim_any _ n n L wr (by unfold maxLen; omega) (Nat.le_refl _) hrd).mono fun _ _ h => trim_post9 ⟨Nat.le_refl _, fun h => by cases h⟩ (fun b o h => by cases h; exact Nat.le_refl _) hrd hfin.out.2.2.1 hb h)
      clear hz hrd
      go_wp2_with fail
      refine ht.out.mono ?_
      rintro e w4 ⟨v, rfl, hv, hb4⟩
      rw [hfin.out.1] at hv
      rw [hfin.out.2.1]
      go_wp2_with fail
      go_ret2
      exact ⟨v, rfl, hv, hb4⟩
    · obtain ⟨j, rfl⟩ : ∃ j : Nat, z = j := ⟨z.toNat, by omega⟩
      obtain rfl : k = j + 1 := by omega
      clear hz h0
      obtain ⟨b1, o1, a, rfl, hb1', hc1, ha⟩ := hx.at (k := j) (by omega)
      have hc : wr.cell? ⟨b1, o1 + j, none⟩ = some (.int .u64 (a : Int)) := (hb.cell (p := ⟨b1, o1 + j, none⟩) hb1').trans hc1
      have hf := hr.free j
      have hcell := hr.cell j (by rw [hinv.out.2.1]; omega)
      have da : (a : Int) ≤ 999999999 := by have h := dx.getD B9_pos j; rw [ha.out, B9_eq] at h; omega
      have hrb : (r : Int) ≤ 999999998 := by have := hinv.out.1; omega
      obtain ⟨q, hq⟩ : ∃ q : Nat, Hid (q = (r * 1000000000 + a) / d) := ⟨_, hiD rfl⟩
      obtain ⟨r', hr'⟩ : ∃ r' : Nat, Hid (r' = (r * 1000000000 + a) % d) := ⟨_, hiD rfl⟩
      have he : q * d + r' = r * B9 + a := by rw [hq.out, hr'.out, B9_eq, Nat.mul_comm]; exact Nat.div_add_mod _ _
      have hlt : r' < d := by rw [hr'.out]; exact Nat.mod_lt _ hd
      have hqB : q < B9 := by
        apply Nat.lt_of_mul_lt_mul_right (a := d)
        have h1 := hinv.out.1
        have h2 : (r + 1) * B9 ≤ d * B9 := Nat.mul_le_mul_right _ h1
        have h3 : (r + 1) * B9 = r * B9 + B9 := by grind
        have h4 : B9 * d = d * B9 := Nat.mul_comm _ _
        have h5 := B9_eq
        omega
      have hw1 : ((r : Int) * 1000000000 + a) / d = (q : Int) := by rw [hq.out, Int.natCast_ediv, Int.natCast_add, Int.natCast_mul]; rfl
      have hw2 : ((r : Int) * 1000000000 + a) % d = (r' : Int) := by rw [hr'.out, Int.natCast_emod, Int.natCast_add, Int.natCast_mul]; rfl
      have hj : (j : Int) < n := by omega
      have hinv' : Hid (r' < d ∧ (L.set j q).length = n ∧ Dig B9 ((L.set j q).drop j) ∧ val B9 ((L.set j q).drop j) * d + r' = val B9 (x.drop j)) := by
        obtain ⟨g1, g2, g3, g4⟩ := hinv.out
        have hjl : j < (L.set j q).length := by rw [List.length_set]; omega
        have hd1 : (L.set j q).drop (j + 1) = L.drop (j + 1) := by rw [List.drop_set_of_lt (by omega)]
        have hgj : (L.set j q).getD j 0 = q := by rw [List.getD_eq_getElem?_getD, List.getElem?_set_self (by omega)]; rfl
        refine ⟨hlt, by rw [List.length_set]; exact g2, ?_, ?_⟩
        · rw [List.drop_eq_getElem_cons hjl, hd1]
          have : (L.set j q)[j] = q := by simp
          rw [this]
          exact (Dig.one hqB).append g3
        · rw [val_drop_D, hd1, hgj, val_drop_D B9 x j, ha.out]
          exact small_step he g4
      clear he hlt hqB hc1
      go_wp2_with fail
      go_roundw
      case rel => exact ⟨j, (j : Int) - 1, r', _, by omega, rfl, by omega, by rw [hw2], hinv', hr.set _ _, hb.setCell (Nat.le_refl _) _⟩
      case measure => simp [intOf]
end Go.Proofs.YtoegbjmoecbjdaaGreatDoor
