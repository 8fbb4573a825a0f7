/- Plain arithmetic of a division from digit to digit. -/
import Derived.Test.YtoegbjmoecbjdaaGreatDoorPart03
import Derived.Test.YtoegbjmoecbjdaaGreatDoorPart01
set_option maxHeartbeats 3200000
set_option maxRecDepth 100000
namespace Go.Proofs.YtoegbjmoecbjdaaGreatDoor
open Go.RowKit Big
theorem div64_fix (hi lo y : Nat) (w : World) (hy : hi < y) (hyB : y < B64) (hloB : lo < B64) :
    Calls Tryz.prog 204 #[.int .u64 hi, .int .u64 lo, .int .u64 y] w fun e w' => e = .returned (.tuple #[.int .u64 (((hi * B64 + lo) / y : Nat) : Int), .int .u64 (((hi * B64 + lo) % y : Nat) : Int)]) ∧ ∃ k, w.drewN k = w' := by
  refine (div64_any hi lo y w hy hyB hloB).mono ?_
  rintro e w' ⟨q, r, rfl, hw, h1, h2⟩
  have hpos : 0 < y := by omega
  have e1 : (hi * B64 + lo) / y = q := by rw [← h1, Nat.mul_comm, Nat.mul_add_div hpos, Nat.div_eq_of_lt h2]; rfl
  have e2 : (hi * B64 + lo) % y = r := by rw [← h1, Nat.mul_comm, Nat.mul_add_mod, Nat.mod_eq_of_lt h2]
  exact ⟨by rw [e1, e2], hw⟩
theorem quiet_more {P : Program} {f : FuncId} {args : Array Value} {w : World} {a n : Nat} {v : Value}
    (h : Calls P f args (w.drewN (a + n)) fun e w' => e = .returned v ∧ ∃ k, (w.drewN (a + n)).drewN k = w') : Calls P f args (w.drewN (a + n)) fun e w'' => e = .returned v ∧ ∃ m, w'' = w.drewN (a + m) :=
  h.mono fun _ _ ⟨he, k, hk⟩ => ⟨he, n + k, by rw [← hk, World.drewN_drewN, Nat.add_assoc]⟩
def TakePost (L : List Nat) (g off m : Nat) (y : List Nat) (w : World) (e : Ending) (w' : World) : Prop :=
  ∃ L' q : _, Put L off (m + 1) L' ∧ Dig B64 (seg L' off (m + 1)) ∧ q < B64 ∧ q * val B64 y + val B64 (seg L' off (m + 1)) = val B64 (seg L off (m + 1)) ∧ val B64 (seg L' off (m + 1)) < val B64 y ∧
    e = .returned (.int .u64 ((q : Nat) : Int)) ∧ Only g w w' ∧ Row w' g 76 L'
theorem take_low {v G D R P Q : Nat} (h : v + G * D = R + P * 1) (hv : v < P) (hQ : Q = R / D) (hD : 0 < D) : 1 ≤ G ∧ Q ≤ G - 1 := by
  have h1 : R < G * D := by omega
  have h2 : Q < G := by rw [hQ, Nat.div_lt_iff_lt_mul hD]; exact h1
  omega
theorem take_add {v v2 G D R P c : Nat} (h : v + G * D = R + P * 1) (h2 : v2 + P * c = v + D) (hG : 1 ≤ G) (hc : c ≤ 1) : v2 + (G - 1) * D = R + P * (1 - c) := by
  obtain ⟨k, rfl⟩ : ∃ k, G = k + 1 := ⟨G - 1, by omega⟩
  have h3 : (k + 1) * D = k * D + D := by grind
  have : c = 0 ∨ c = 1 := by omega
  rcases this with rfl | rfl
  · rw [Nat.add_sub_cancel]; omega
  · rw [Nat.add_sub_cancel]; omega
theorem take_done {v G D R : Nat} (h : v + G * D = R) (hD : 0 < D) (hQ : R / D ≤ G) : v < D := by
  apply Nat.lt_of_not_le; intro h1
  have h2 : (G + 1) * D ≤ R := by
    have : (G + 1) * D = G * D + D := by grind
    omega
  have := (Nat.le_div_iff_mul_le hD).2 h2
  omega
theorem take_guess (R D r1 r0 d1 low P : Nat) (hR : R = (r1 * B64 + r0) * P + low) (hlow : low < P) (hD : d1 * P ≤ D) (hd : 0 < d1) : R / D ≤ (r1 * B64 + r0) / d1 :=
  guess_ge (q := R / D) (D := D) (R := R) (P := P) (low := low) hd (Nat.div_mul_le_self _ _) hD hR hlow
def flag (b : Bool) : Nat := if b then 1 else 0
theorem flag_of (c : Nat) (h : c ≤ 1) : flag ((c : Int) == 1) = c := by
  have : c = 0 ∨ c = 1 := by omega
  rcases this with rfl | rfl <;> rfl
theorem flag_not (c : Nat) (h : c ≤ 1) : flag (!((c : Int) == 1)) = 1 - c := by
  have : c = 0 ∨ c = 1 := by omega
  rcases this with rfl | rfl <;> rfl
theorem takeMultiple_any (g off m cz : Nat) (L : List Nat) (q : Option Addr) (d : Nat) (y : List Nat) (w : World) (hm0 : m + 1 ≤ most) (hm1 : 1 ≤ m) (hL : off + (m + 1) ≤ L.length)
    (hz : Row w g 76 L) (hy : Rd w q m y) (hq : m = 0 ∨ ∀ b o, q = some ⟨b, o, none⟩ → b ≠ g) (dL : Dig B64 (seg L off (m + 1))) (dy : Dig B64 y) (htop : 0 < y.getD (m - 1) 0) (hR : val B64 (seg L off (m + 1)) < val B64 y * B64) :
    Calls Tryz.prog 172 #[.slice (some ⟨g, off, none⟩) (m + 1) cz, .slice q m d] w (TakePost L g off m y w) := by
  have hm : (m : Int) + 1 ≤ 4294967296 := by unfold most at hm0; omega
  have hmi : (1 : Int) ≤ m := by omega
  obtain ⟨bq, oq, d1, rfl, hbq, hcq, hd1⟩ := hy.at (k := m - 1) (by omega)
  have hr1 := hz.cell (off + m) (by omega)
  obtain ⟨r1, hr1'⟩ : ∃ a, Hid (L.getD (off + m) 0 = a) := ⟨_, hiD rfl⟩
  rw [hr1'.out] at hr1
  have hr0 := hz.cell (off + (m - 1)) (by omega)
  obtain ⟨r0, hr0'⟩ : ∃ a, Hid (L.getD (off + (m - 1)) 0 = a) := ⟨_, hiD rfl⟩
  rw [hr0'.out] at hr0
  have HR := hiD hR
  clear hR
  have hylen : y.length = m := hy.len
  have dd1 : d1 < B64 := by rw [← hd1.out]; exact dy.getD B64_pos _
  have dr1 : r1 < B64 := by rw [← hr1'.out, ← seg_getD L off (m + 1) m (by omega)]; exact dL.getD B64_pos _
  have dr0 : r0 < B64 := by rw [← hr0'.out, ← seg_getD L off (m + 1) (m - 1) (by omega)]; exact dL.getD B64_pos _
  rw [hd1.out] at htop
  have hysplit : d1 * B64 ^ (m - 1) ≤ val B64 y := by
    have h1 := val_take_succD B64 y (m - 1)
    rw [show m - 1 + 1 = m from by omega, List.take_of_length_le (by omega), hd1.out, Nat.mul_comm] at h1
    omega
  have hD0 : 0 < val B64 y := Nat.lt_of_lt_of_le (Nat.mul_pos htop (Nat.pow_pos B64_pos)) hysplit
  have hRsplit : val B64 (seg L off (m + 1)) = (r1 * B64 + r0) * B64 ^ (m - 1) + val B64 (seg L off (m - 1)) ∧ val B64 (seg L off (m - 1)) < B64 ^ (m - 1) := by
    have e1 : seg L off (m + 1) = seg L off (m - 1) ++ [r0] ++ [r1] := by
      rw [seg_succ L off m (by omega), hr1'.out]
      have := seg_succ L off (m - 1) (by omega)
      rw [show m - 1 + 1 = m from by omega, hr0'.out] at this
      rw [this]
    have hl : (seg L off (m - 1)).length = m - 1 := seg_length _ _ _ (by omega)
    have hlt := val_lt (seg L off (m - 1)) (by rw [e1] at dL; exact dL.left.left)
    rw [hl] at hlt
    refine ⟨?_, hlt⟩
    rw [e1, val_snoc, val_snoc, List.length_append, hl]
    simp only [List.length_singleton, Nat.pow_succ]
    grind
  have HD0 := hiD hD0
  have Hysplit := hiD hysplit
  have HRsplit := hiD hRsplit
  clear hysplit hRsplit hylen
  have hzd : ∀ k, Row (w.drewN k) g 76 L := fun k => hz
  have hyd : ∀ k, Rd (w.drewN k) (some ⟨bq, oq, none⟩) m y := fun k => hy.below (below_drewN _ _ _)
  have honlyd : ∀ k, Only g w (w.drewN k) := fun k => ⟨rfl, rfl, rfl, rfl, fun _ _ => rfl⟩
  by_cases hlt : r1 < d1
  · have ht : decide (r1 < d1) = true := decide_eq_true hlt
    have hGB : (r1 * B64 + r0) / d1 < B64 := digit_lt_base hlt dr0
    have HG : Hid (val B64 (seg L off (m + 1)) / val B64 y ≤ (r1 * B64 + r0) / d1) := hiD (take_guess _ _ r1 r0 d1 _ _ HRsplit.out.1 HRsplit.out.2 Hysplit.out htop)
    have hdiv := fun W => div64_fix r1 r0 d1 W hlt dd1 dr0
    obtain ⟨G0, hG0⟩ : ∃ G0, Hid (G0 = (r1 * B64 + r0) / d1) := ⟨_, hiD rfl⟩
    rw [← hG0.out] at hGB HG hdiv
    have Hdiv := hiD hdiv
    clear hdiv
    go_enter Tryz.func172, Tryz.ntmps172
    go_wp2_with fail
    go_quiet (fail)
    go_wp2_with fail
    go_quiet ((go_at_call 204; exact quiet_more (Hdiv.out _)))
    go_wp2_with fail
    refine (subtractTimes_any g off m cz 76 L (some ⟨bq, oq, none⟩) d y G0 _ (by unfold maxLen; omega) hL (hzd _) (hyd _) hq dL dy hGB).mono ?_
    rintro e w3 ⟨L1, c1, hput, hdig, hc1, hval, rfl, ho, hrow⟩
    have hinv : Hid (Put L off (m + 1) L1 ∧ Dig B64 (seg L1 off (m + 1)) ∧ G0 < B64 ∧ val B64 (seg L off (m + 1)) / val B64 y ≤ G0 ∧ val B64 (seg L1 off (m + 1)) + G0 * val B64 y = val B64 (seg L off (m + 1)) + B64 ^ (m + 1) * flag ((c1 : Int) == 1)) :=
      hiD ⟨hput, hdig, hGB, HG.out, by rw [flag_of c1 hc1, Nat.mul_comm]; exact hval⟩
    have hom : Only g w w3 := (honlyd _).trans ho
    clear hput hdig hval ho hGB
    go_wp2_with fail
    go_loopw [6, 7] (fun gv nv wr => ∃ (G : Nat) (b : Bool) (L' : List Nat), gv = .int .u64 G ∧ nv = .bool b ∧ Hid (Put L off (m + 1) L' ∧ Dig B64 (seg L' off (m + 1)) ∧ G < B64 ∧ val B64 (seg L off (m + 1)) / val B64 y ≤ G ∧ val B64 (seg L' off (m + 1)) + G * val B64 y = val B64 (seg L off (m + 1)) + B64 ^ (m + 1) * flag b) ∧ Only g w wr ∧ Row wr g 76 L') (fun gv nv _ => (intOf gv).toNat)
    case atStart => exact ⟨G0, _, L1, rfl, rfl, hinv, hom, hrow⟩
    case round =>
      obtain ⟨G, b, L', rfl, rfl, hinv', hom', hrow'⟩ := hrel
      clear hinv hom hrow
      cases b with
      | false =>
        have hfin : TakePost L g off m y w (.returned (.int .u64 (G : Int))) wr := by
          obtain ⟨i1, i2, i3, i4, i5⟩ := hinv'.out
          have i5' : val B64 (seg L' off (m + 1)) + G * val B64 y = val B64 (seg L off (m + 1)) := by rw [i5]; simp [flag]
          refine ⟨L', G, i1, i2, i3, by rw [Nat.add_comm]; exact i5', take_done i5' hD0 i4, rfl, hom', hrow'⟩
        have Hfin := hiD hfin
        clear hfin
        go_wp2_with fail
        go_ret
        exact Hfin.out
      | true =>
        obtain ⟨i1, i2, i3, i4, i5⟩ := hinv'.out
        have hlt' := val_lt _ i2
        rw [seg_length _ _ _ (by rw [i1.length]; exact hL)] at hlt'
        have hl := take_low (Q := val B64 (seg L off (m + 1)) / val B64 y) i5 hlt' rfl hD0
        have hadd := addInto_any g off (m + 1) cz 76 L' (some ⟨bq, oq, none⟩) m d y wr (by unfold maxLen; omega) (by rw [i1.length]; exact hL) (by omega) hrow' (hom'.rd hy hq) hq i2 dy
        have Hadd := hiD hadd
        have Hl := hiD hl
        have g1 : (1 : Int) ≤ G := by omega
        have g2 : (G : Int) ≤ 18446744073709551615 := lt64 i3
        clear hadd hl hlt' i1 i2 i3 i4 i5
        go_wp2_with fail
        refine Hadd.out.mono ?_
        rintro e w4 ⟨L2, c2, hput2, hdig2, hc2, hval2, rfl, ho2, hrow2⟩
        have hinv2 : Hid (Put L off (m + 1) L2 ∧ Dig B64 (seg L2 off (m + 1)) ∧ G - 1 < B64 ∧ val B64 (seg L off (m + 1)) / val B64 y ≤ G - 1 ∧ val B64 (seg L2 off (m + 1)) + (G - 1) * val B64 y = val B64 (seg L off (m + 1)) + B64 ^ (m + 1) * flag (!((c2 : Int) == 1))) := by
          obtain ⟨i1, i2, i3, i4, i5⟩ := hinv'.out
          exact hiD ⟨i1.trans hput2, hdig2, by omega, Hl.out.2, by rw [flag_not c2 hc2]; exact take_add i5 hval2 Hl.out.1 hc2⟩
        clear hval2 hdig2 hput2
        go_wp2_with fail
        go_roundw
        case rel => exact ⟨G - 1, _, L2, by go_num, rfl, hinv2, hom'.trans ho2, hrow2⟩
        case measure => simp [intOf]; omega
  · have ht : decide (r1 < d1) = false := decide_eq_false hlt
    have hGB : 18446744073709551615 < B64 := by rw [B64_eq]; omega
    have HG : Hid (val B64 (seg L off (m + 1)) / val B64 y ≤ 18446744073709551615) := hiD (by
      have h1 : val B64 (seg L off (m + 1)) / val B64 y < B64 := by rw [Nat.div_lt_iff_lt_mul hD0, Nat.mul_comm]; exact HR.out
      have h2 := B64_eq; omega)
    go_enter Tryz.func172, Tryz.ntmps172
    go_wp2_with fail
    go_quiet (fail)
    go_wp2_with fail
    refine (subtractTimes_any g off m cz 76 L (some ⟨bq, oq, none⟩) d y 18446744073709551615 _ (by unfold maxLen; omega) hL (hzd _) (hyd _) hq dL dy hGB).mono ?_
    rintro e w3 ⟨L1, c1, hput, hdig, hc1, hval, rfl, ho, hrow⟩
    have hinv : Hid (Put L off (m + 1) L1 ∧ Dig B64 (seg L1 off (m + 1)) ∧ 18446744073709551615 < B64 ∧ val B64 (seg L off (m + 1)) / val B64 y ≤ 18446744073709551615 ∧ val B64 (seg L1 off (m + 1)) + 18446744073709551615 * val B64 y = val B64 (seg L off (m + 1)) + B64 ^ (m + 1) * flag ((c1 : Int) == 1)) :=
      hiD ⟨hput, hdig, hGB, HG.out, by rw [flag_of c1 hc1, Nat.mul_comm]; exact hval⟩
    have hom : Only g w w3 := (honlyd _).trans ho
    clear hput hdig hval ho hGB
    go_wp2_with fail
    go_loopw [6, 7] (fun gv nv wr => ∃ (G : Nat) (b : Bool) (L' : List Nat), gv = .int .u64 G ∧ nv = .bool b ∧ Hid (Put L off (m + 1) L' ∧ Dig B64 (seg L' off (m + 1)) ∧ G < B64 ∧ val B64 (seg L off (m + 1)) / val B64 y ≤ G ∧ val B64 (seg L' off (m + 1)) + G * val B64 y = val B64 (seg L off (m + 1)) + B64 ^ (m + 1) * flag b) ∧ Only g w wr ∧ Row wr g 76 L') (fun gv nv _ => (intOf gv).toNat)
    case atStart => exact ⟨18446744073709551615, _, L1, rfl, rfl, hinv, hom, hrow⟩
    case round =>
      obtain ⟨G, b, L', rfl, rfl, hinv', hom', hrow'⟩ := hrel
      clear hinv hom hrow
      cases b with
      | false =>
        have hfin : TakePost L g off m y w (.returned (.int .u64 (G : Int))) wr := by
          obtain ⟨i1, i2, i3, i4, i5⟩ := hinv'.out
          have i5' : val B64 (seg L' off (m + 1)) + G * val B64 y = val B64 (seg L off (m + 1)) := by rw [i5]; simp [flag]
          refine ⟨L', G, i1, i2, i3, by rw [Nat.add_comm]; exact i5', take_done i5' hD0 i4, rfl, hom', hrow'⟩
        have Hfin := hiD hfin
        clear hfin
        go_wp2_with fail
        go_ret
        exact Hfin.out
      | true =>
        obtain ⟨i1, i2, i3, i4, i5⟩ := hinv'.out
        have hlt' := val_lt _ i2
        rw [seg_length _ _ _ (by rw [i1.length]; exact hL)] at hlt'
        have hl := take_low (Q := val B64 (seg L off (m + 1)) / val B64 y) i5 hlt' rfl hD0
        have hadd := addInto_any g off (m + 1) cz 76 L' (some ⟨bq, oq, none⟩) m d y wr (by unfold maxLen; omega) (by rw [i1.length]; exact hL) (by omega) hrow' (hom'.rd hy hq) hq i2 dy
        have Hadd := hiD hadd
        have Hl := hiD hl
        have g1 : (1 : Int) ≤ G := by omega
        have g2 : (G : Int) ≤ 18446744073709551615 := lt64 i3
        clear hadd hl hlt' i1 i2 i3 i4 i5
        go_wp2_with fail
        refine Hadd.out.mono ?_
        rintro e w4 ⟨L2, c2, hput2, hdig2, hc2, hval2, rfl, ho2, hrow2⟩
        have hinv2 : Hid (Put L off (m + 1) L2 ∧ Dig B64 (seg L2 off (m + 1)) ∧ G - 1 < B64 ∧ val B64 (seg L off (m + 1)) / val B64 y ≤ G - 1 ∧ val B64 (seg L2 off (m + 1)) + (G - 1) * val B64 y = val B64 (seg L off (m + 1)) + B64 ^ (m + 1) * flag (!((c2 : Int) == 1))) := by
          obtain ⟨i1, i2, i3, i4, i5⟩ := hinv'.out
          exact hiD ⟨i1.trans hput2, hdig2, by omega, Hl.out.2, by rw [flag_not c2 hc2]; exact take_add i5 hval2 Hl.out.1 hc2⟩
        clear hval2 hdig2 hput2
        go_wp2_with fail
        go_roundw
        case rel => exact ⟨G - 1, _, L2, by go_num, rfl, hinv2, hom'.trans ho2, hrow2⟩
        case measure => simp [intOf]; omega
def QuoPost (a b : Nat) (w : World) (e : Ending) (w' : World) : Prop :=
  ∃ v u, e = .returned (.tuple #[v, u]) ∧ NatAt w' v (a / b) ∧ NatAt w' u (a % b) ∧ Below w.heap.size w w'
theorem cmp3_lt {a b : Nat} (h : a < b) : cmp3 a b = -1 := by simp [cmp3, h]
theorem cmp3_ge {a b : Nat} (h : ¬ a < b) : cmp3 a b = 0 ∨ cmp3 a b = 1 := by
  unfold cmp3; rw [if_neg h]; split
  · exact .inr rfl
  · exact .inl rfl
theorem divided_less (u v : Value) (a b K : Nat) (w : World) (hK : K ≤ most) (ha : a < B64 ^ K) (hb : b < B64 ^ K) (hu : NatAt w u a) (hv : NatAt w v b) (hlt : a < b) : Calls Tryz.prog 135 #[u, v] w (QuoPost a b w) := by
  have hc := compare_nat u v a b K w hK ha hb hu hv
  rw [show CmpPost a b w = CmpPost a b w from rfl] at hc
  have Hc := hiD hc
  have hfin : Hid (∀ k, QuoPost a b w (.returned (.tuple #[.slice none 0 0, u])) (w.drewN k)) := hiD fun k =>
    ⟨_, _, rfl, by rw [Nat.div_eq_of_lt hlt]; exact NatAt.zero _, by rw [Nat.mod_eq_of_lt hlt]; exact hu.drewN k, below_drewN _ _ _⟩
  have hcmp := cmp3_lt hlt
  have Hcmp := hiD hcmp
  clear hc hcmp hu hv hlt
  go_enter Tryz.func135, Tryz.ntmps135
  go_wp2_with fail
  refine Hc.out.mono ?_
  rintro e w1 ⟨rfl, k, rfl⟩
  rw [Hcmp.out]
  go_wp2_with fail
  go_ret2
  exact hfin.out k
theorem one_limb {y : List Nat} (h : y.length = 1) : ∃ d, y = [d] := by
  match y, h with
  | [d], _ => exact ⟨d, rfl⟩
theorem rd_box (w : World) (d : Nat) (t : TypeId) : Rd (w.alloc (.cells #[.int .u64 (d : Int)] t)) (some ⟨w.heap.size, 0, none⟩) 1 [d] := by
  refine ⟨rfl, .inr ⟨_, _, rfl, by simp, fun j hj => ?_⟩⟩
  obtain rfl : j = 0 := by omega
  have h : (w.alloc (.cells #[.int .u64 (d : Int)] t)).heap[w.heap.size]? = some (.cells #[.int .u64 (d : Int)] t) := by
    show (w.heap.push _)[_]? = _
    simp
  unfold World.cell?
  rw [h]; rfl
theorem divided_limb (p : Option Addr) (n c : Nat) (x : List Nat) (q : Option Addr) (d : Nat) (y : List Nat) (w : World) (hn : n ≤ most) (hx : Rd w p n x) (hy : Rd w q 1 y) (cx : Canon B64 x) (cy : Canon B64 y) (hge : ¬ val B64 x < val B64 y)
    (hc : Hid (Calls Tryz.prog 127 #[.slice p n c, .slice q 1 d] w (CmpPost (val B64 x) (val B64 y) w))) :
    Calls Tryz.prog 135 #[.slice p n c, .slice q 1 d] w (QuoPost (val B64 x) (val B64 y) w) := by
  obtain ⟨bq, oq, t, rfl, hbq, hcq, ht⟩ := hy.at (k := 0) (by omega)
  obtain ⟨t', hyt⟩ := one_limb hy.len
  obtain rfl : t' = t := by rw [hyt] at ht; exact ht.out
  subst hyt
  have hyv : val B64 [t'] = t' := by simp [val]
  rw [hyv] at hc hge ⊢
  have ht0 : 0 < t' := by
    have := cy.2; simp at this; omega
  have htB : t' < B64 := cy.1 t' (by simp)
  have hcmp : cmp3 (val B64 x) t' = 0 ∨ cmp3 (val B64 x) t' = 1 := cmp3_ge hge
  obtain ⟨z, hz, hz0⟩ : ∃ z : Int, Hid (cmp3 (val B64 x) t' = z) ∧ (0 : Int) ≤ z := ⟨_, hiD rfl, by rcases hcmp with h | h <;> rw [h] <;> omega⟩
  have hcq' : ∀ k, (w.drewN k).cell? ⟨bq, oq, none⟩ = some (.int .u64 (t' : Int)) := fun k => hcq
  have hdl : ∀ k, Hid (Calls Tryz.prog 169 #[.slice p n c, .int .u64 t'] (w.drewN k) (LimbPost (val B64 x) t' (w.drewN k))) := fun k => hiD (dividedByLimb_any p n c x t' _ hn (hx.below (below_drewN _ _ _)) cx.1 ht0 htB)
  have hmodB : val B64 x % t' < B64 := Nat.lt_trans (Nat.mod_lt _ ht0) htB
  obtain ⟨r, hr⟩ : ∃ r, Hid (val B64 x % t' = r) := ⟨_, hiD rfl⟩
  rw [hr.out] at hmodB
  clear hcmp hge hyv
  go_enter Tryz.func135, Tryz.ntmps135
  go_wp2_with fail
  refine hc.out.mono ?_
  rintro e w1 ⟨rfl, k, rfl⟩
  rw [hz.out]
  have hcqk := hcq' k
  have hdlk := hdl k
  clear hcq' hdl
  go_wp2_with fail
  refine hdlk.out.mono ?_
  rintro e w2 ⟨v2, rfl, hv2, hb2⟩
  rw [hr.out]
  go_wp2_with fail
  have hb3 : Below w.heap.size w w2 := (below_drewN _ _ _).trans hb2
  have ht : ∀ T, Hid (Calls Tryz.prog 134 #[.slice (some ⟨w2.heap.size, 0, none⟩) 1 1] (w2.alloc (.cells #[.int .u64 (r : Int)] T)) (NatPost (val B64 [r]) (w2.alloc (.cells #[.int .u64 (r : Int)] T)))) := fun T =>
    hiD (trimmed_nat _ 1 1 [r] _ _ (by unfold maxLen; omega) (by omega) (rd_box w2 r T) (Dig.one hmodB) (Below.refl _ _))
  refine (ht _).out.mono ?_
  rintro e w4 ⟨v4, rfl, hv4, hb4⟩
  have hfin : Hid (QuoPost (val B64 x) t' w (.returned (.tuple #[v2, v4])) w4) := by
    have hb5 : Below w2.heap.size w2 w4 := ((Below.refl _ _).alloc (Nat.le_refl _) _).trans (hb4.mono (by simp))
    refine hiD ⟨v2, v4, rfl, hv2.below hb5, ?_, hb3.trans (hb5.mono hb3.size)⟩
    rw [hr.out]
    have : val B64 [r] = r := by simp [val]
    rw [← this]; exact hv4
  clear hv4 hb4 hb3
  go_wp2_with fail
  go_ret2
  exact hfin.out
end Go.Proofs.YtoegbjmoecbjdaaGreatDoor
namespace Big
theorem val_seg_drop (B : Nat) (L : List Nat) (i n : Nat) (h : i + n ≤ L.length) : val B (L.drop i) = val B (seg L i n) + B ^ n * val B (L.drop (i + n)) := by
  have h1 := val_split B (L.drop i) n (by simp; omega)
  rw [List.drop_drop] at h1
  exact h1
theorem top_zero {B D i m : Nat} {L : List Nat} (hl : i + (m + 1) ≤ L.length) (hB : 0 < B) (hD : D < B ^ m) (hL : val B L < D * B ^ (i + 1)) : val B (L.drop (i + (m + 1))) = 0 ∧ val B (seg L i (m + 1)) < D * B := by
  have h1 := val_split B L i (by omega)
  have h2 := val_seg_drop B L i (m + 1) hl
  have hp : 0 < B ^ i := Nat.pow_pos hB
  have h3 : D * B ^ (i + 1) = D * B * B ^ i := by rw [Nat.pow_succ]; grind
  have h4 : val B (L.drop i) < D * B := by
    apply Nat.lt_of_mul_lt_mul_right (a := B ^ i)
    rw [← h3]
    have : val B (L.drop i) * B ^ i = B ^ i * val B (L.drop i) := Nat.mul_comm _ _
    omega
  have h5 : D * B ≤ B ^ m * B := Nat.mul_le_mul_right _ (Nat.le_of_lt hD)
  rw [← Nat.pow_succ] at h5
  have h6 : val B (L.drop (i + (m + 1))) = 0 := by
    apply Nat.eq_zero_of_not_pos; intro h7
    have h8 : B ^ (m + 1) * 1 ≤ B ^ (m + 1) * val B (L.drop (i + (m + 1))) := Nat.mul_le_mul_left _ h7
    have h9 : B ^ m.succ = B ^ (m + 1) := rfl
    omega
  refine ⟨h6, ?_⟩
  rw [h6, Nat.mul_zero, Nat.add_zero] at h2
  omega
theorem quo_step {B D i m q : Nat} {L L' : List Nat} (hl : i + (m + 1) ≤ L.length) (hB : 0 < B) (hD : D < B ^ m) (hL : val B L < D * B ^ (i + 1)) (hdig : Dig B L) (hput : Put L i (m + 1) L') (hq : q * D + val B (seg L' i (m + 1)) = val B (seg L i (m + 1))) (hlt : val B (seg L' i (m + 1)) < D) :
    val B L' < D * B ^ i ∧ val B L = val B L' + q * D * B ^ i := by
  obtain ⟨h0, -⟩ := top_zero hl hB hD hL
  have h1 := val_split B L i (by omega)
  have h2 := val_split B L' i (by rw [hput.length]; omega)
  have h3 := val_seg_drop B L i (m + 1) hl
  have h4 := val_seg_drop B L' i (m + 1) (by rw [hput.length]; exact hl)
  rw [hput.behind, h0] at h4
  rw [h0] at h3
  rw [hput.before] at h2
  have h5 := val_lt (L.take i) (hdig.take i)
  rw [List.length_take, Nat.min_eq_left (by omega)] at h5
  generalize val B (seg L' i (m + 1)) = R' at *
  generalize val B (seg L i (m + 1)) = R at *
  rw [Nat.mul_zero, Nat.add_zero] at h3 h4
  rw [h4] at h2
  rw [h3, ← hq] at h1
  constructor
  · have h6 : B ^ i * (R' + 1) ≤ B ^ i * D := Nat.mul_le_mul_left _ hlt
    rw [Nat.mul_add, Nat.mul_comm _ D] at h6
    omega
  · rw [h1, h2]; grind
theorem quo_inv {B D i q Y V V' X : Nat} (h : X = Y * D * B ^ (i + 1) + V) (hV : V = V' + q * D * B ^ i) : X = (q + B * Y) * D * B ^ i + V' := by
  rw [h, hV, Nat.pow_succ]; grind
theorem quo_end {a b P q r : Nat} (hP : 0 < P) (hb : 0 < b) (h : P * a = q * (P * b) + r) (hr : r < P * b) : q = a / b ∧ r / P = a % b := by
  have h1 : (P * a) / (P * b) = q := by
    rw [h, Nat.mul_comm q, Nat.mul_add_div (Nat.mul_pos hP hb), Nat.div_eq_of_lt hr]; rfl
  have h2 : (P * a) % (P * b) = r := by
    rw [h, Nat.mul_comm q, Nat.mul_add_mod, Nat.mod_eq_of_lt hr]
  rw [Nat.mul_div_mul_left _ _ hP] at h1
  rw [Nat.mul_mod_mul_left] at h2
  exact ⟨h1.symm, by rw [← h2, Nat.mul_div_cancel_left _ hP]⟩
theorem shifted_fits {B P Q t m V low : Nat} (hB : P * Q = B) (ht : t * P < B) (hV : V = low + B ^ m * t) (hlow : low < B ^ m) (hP : 0 < P) : P * V < B ^ (m + 1) := by
  have h1 : t < Q := by
    apply Nat.lt_of_mul_lt_mul_right (a := P)
    rw [Nat.mul_comm Q, hB]; exact ht
  have h2 : (t + 1) * P ≤ Q * P := Nat.mul_le_mul_right _ h1
  rw [Nat.mul_comm Q, hB] at h2
  have h3 : V < B ^ m * (t + 1) := by rw [Nat.mul_add, Nat.mul_one]; omega
  have h4 : P * V < P * (B ^ m * (t + 1)) := Nat.mul_lt_mul_of_pos_left h3 hP
  have h5 : P * (B ^ m * (t + 1)) = B ^ m * ((t + 1) * P) := by grind
  have h6 : B ^ m * ((t + 1) * P) ≤ B ^ m * B := Nat.mul_le_mul_left _ h2
  rw [Nat.pow_succ]; omega
end Big
namespace Go.Proofs.YtoegbjmoecbjdaaGreatDoor
open Go.RowKit Big
theorem divided_long (p : Option Addr) (n c : Nat) (x : List Nat) (q : Option Addr) (m' d : Nat) (y : List Nat) (w : World) (hn : n + 2 ≤ most) (hmn : m' + 2 ≤ n) (hx : Rd w p n x) (hy : Rd w q (m' + 2) y) (cx : Canon B64 x) (cy : Canon B64 y) (hge : ¬ val B64 x < val B64 y)
    (hc : Hid (Calls Tryz.prog 127 #[.slice p n c, .slice q (m' + 2 : Nat) d] w (CmpPost (val B64 x) (val B64 y) w))) :
    Calls Tryz.prog 135 #[.slice p n c, .slice q (m' + 2 : Nat) d] w (QuoPost (val B64 x) (val B64 y) w) := by
  obtain ⟨m, hm⟩ : ∃ m, Hid (m = m' + 2) := ⟨_, hiD rfl⟩
  rw [← hm.out] at hy hc hmn ⊢
  have hm2 : (2 : Int) ≤ m := by have := hm.out; omega
  have hmn' : (m : Int) ≤ n := by omega
  have hnb : (n : Int) ≤ 4294967294 := by unfold most at hn; omega
  obtain ⟨i0, hi, hz0, hz1, hz2⟩ := info_parts info79
  obtain ⟨bq, oq, t, rfl, hbq, hcq, ht⟩ := hy.at (k := m - 1) (by omega)
  have htB : t < B64 := by rw [← ht.out]; exact cy.1.getD B64_pos _
  have hylen : y.length = m := hy.len
  have hxlen : x.length = n := hx.len
  have ht0 : 0 < t := by
    have h1 := cy.2
    rw [List.getLast?_eq_getElem?, hylen] at h1
    have h2 := ht.out
    rw [List.getD_eq_getElem?_getD] at h2
    apply Nat.pos_of_ne_zero; intro h3
    rw [List.getElem?_eq_getElem (by omega)] at h1 h2
    simp at h2
    exact h1 (by rw [h2, h3])
  obtain ⟨s, hLZ, hs, hsB, hs63⟩ := lz_facts t ht0 htB
  have hpq := pow_split s hs
  have hP : 0 < 2 ^ s := Nat.pow_pos (by omega)
  have hysplit : val B64 y = val B64 (y.take (m - 1)) + B64 ^ (m - 1) * t ∧ val B64 (y.take (m - 1)) < B64 ^ (m - 1) := by
    have h1 := val_take_succD B64 y (m - 1)
    rw [show m - 1 + 1 = m from by omega, List.take_of_length_le (by omega), ht.out] at h1
    have h2 := val_lt (y.take (m - 1)) (cy.1.take _)
    rw [List.length_take, Nat.min_eq_left (by omega)] at h2
    exact ⟨h1, h2⟩
  have hDm : 2 ^ s * val B64 y < B64 ^ m := by
    have := shifted_fits hpq hsB hysplit.1 hysplit.2 hP
    rwa [show m - 1 + 1 = m from by omega] at this
  have hylow : B64 ^ (m - 1) ≤ val B64 y := by
    have h1 : B64 ^ (m - 1) * 1 ≤ B64 ^ (m - 1) * t := Nat.mul_le_mul_left _ ht0
    omega
  have hypos : 0 < val B64 y := Nat.lt_of_lt_of_le (Nat.pow_pos B64_pos) hylow
  have hxlt := val_lt x cx.1
  rw [hxlen] at hxlt
  obtain ⟨z, hz, hz0'⟩ : ∃ z : Int, Hid (cmp3 (val B64 x) (val B64 y) = z) ∧ (0 : Int) ≤ z := ⟨_, hiD rfl, by rcases cmp3_ge hge with h | h <;> rw [h] <;> omega⟩
  have hstart : Hid (2 ^ s * val B64 x < 2 ^ s * val B64 y * B64 ^ (n - m + 1)) := hiD (by
    have h1 : 2 ^ s * val B64 x < 2 ^ s * B64 ^ n := Nat.mul_lt_mul_of_pos_left hxlt hP
    have h2 : B64 ^ (m - 1) * B64 ^ (n - m + 1) ≤ val B64 y * B64 ^ (n - m + 1) := Nat.mul_le_mul_right _ hylow
    rw [← Nat.pow_add, show m - 1 + (n - m + 1) = n from by omega] at h2
    have h3 : 2 ^ s * B64 ^ n ≤ 2 ^ s * (val B64 y * B64 ^ (n - m + 1)) := Nat.mul_le_mul_left _ h2
    rw [Nat.mul_assoc]; omega)
  have HD := hiD (And.intro hDm (And.intro hylow (And.intro hypos (And.intro hP hxlen))))
  have hcq' : ∀ k, (w.drewN k).cell? ⟨bq, oq + (m - 1), none⟩ = some (.int .u64 (t : Int)) := fun k => hcq
  have hsx : ∀ k, Hid (Calls Tryz.prog 171 #[.slice p n c, .int .i64 s] (w.drewN k) (ShlPost (val B64 x) s n (w.drewN k))) := fun k => hiD (shifted_any p n c x s _ (by omega) (hx.below (below_drewN _ _ _)) cx.1 hs)
  have htI : (t : Int) ≤ 18446744073709551615 := lt64 htB
  have ht0' : (0 : Int) ≤ t := by omega
  clear hDm hylow hypos hxlt hysplit hge hsB hs63 hpq hxlen hP
  go_enter Tryz.func135, Tryz.ntmps135
  go_wp2_with fail
  refine hc.out.mono ?_
  rintro e w1 ⟨rfl, k, rfl⟩
  rw [hz.out]
  have hcqk := hcq' k
  have hsxk := hsx k
  clear hcq' hsx
  have hm1 : ((m : Int) == 1) = false := by rw [beq_eq_false_iff_ne]; omega
  go_wp2_with fail
  refine (Go.Proofs.Tryz.bits_LeadingZeros64 _ _ ht0' htI).mono ?_
  rintro e w' ⟨rfl, rfl⟩
  rw [show (64 - (Lib.bitLen (t : Int).toNat : Int)) = s from hLZ.out]
  go_wp2_with fail
  refine hsxk.out.mono ?_
  rintro e w2 ⟨Lx, rfl, hrx, hlx, hdx, hvx, hbx⟩
  have hb2 : Below w.heap.size w w2 := (below_drewN _ _ _).trans hbx
  have hsy : Hid (Calls Tryz.prog 171 #[.slice (some ⟨bq, oq, none⟩) m d, .int .i64 s] w2 (ShlPost (val B64 y) s m w2)) := hiD (shifted_any (some ⟨bq, oq, none⟩) m d y s _ (by omega) (hy.below hb2) cy.1 hs)
  go_wp2_with fail
  refine hsy.out.mono ?_
  rintro e w3 ⟨Ly, rfl, hry, hly, hdy, hvy, hby⟩
  have hrx3 : Row w3 w.heap.size 76 Lx := Below.row hby hrx hrx.lt
  have hb3 : Below w.heap.size w w3 := hb2.trans (hby.mono hb2.size)
  have hg12 : w.heap.size < w2.heap.size := hrx.lt
  have hg23 : w2.heap.size < w3.heap.size := hry.lt
  have HX := hiD (And.intro hlx (And.intro hdx hvx))
  have HY := hiD (And.intro hly (And.intro hdy hvy))
  clear hlx hdx hvx hly hdy hvy hrx hbx hby hb2
  go_wp2_with (at_make; refine wpList_make_full _ rfl _ _ 64 rfl w3.heap.size 76 i0 (.int .u64 0) 1 Tryz.underlying64 hi hz0 hz1 _ _ _ _ (n - m + 1) rfl rfl (by omega) (by omega) ?b2 ?b3 (Nat.le_refl _) ?_)
  case b2 => rw [hz2]; omega
  case b3 => unfold maxLen; omega
  intro w4 hown hgrow
  have hrq : Row w4 w3.heap.size 76 (List.replicate (n - m + 1) 0) := row_of_made hown
  have hb34 : Below w3.heap.size w3 w4 := (Below.refl _ _).grown hgrow (Nat.le_refl _) (fun k h => by cases h)
  have hrx4 : Row w4 w.heap.size 76 Lx := Below.row hb34 hrx3 (by omega)
  have hry4 : Row w4 w2.heap.size 76 Ly := Below.row hb34 hry hg23
  have hb4 : Below w.heap.size w w4 := hb3.trans (hb34.mono hb3.size)
  clear hown hgrow hb34 hrx3 hry hb3
  obtain ⟨Dl, hDl⟩ : ∃ Dl, Hid (Dl = (Ly.drop 0).take m) := ⟨_, hiD rfl⟩
  have HDl : Hid (Dig B64 Dl ∧ val B64 Dl = 2 ^ s * val B64 y ∧ 0 < Dl.getD (m - 1) 0 ∧ Dl.length = m) := hiD (by
    obtain ⟨y1, y2, y3⟩ := HY.out
    obtain ⟨d1, d2, d3, d4, -⟩ := HD.out
    have e0 : Dl = Ly.take m := by rw [hDl.out, List.drop_zero]
    have hd : Dig B64 Dl := by rw [e0]; exact y2.take m
    have hl : Dl.length = m := by rw [e0, List.length_take, y1]; omega
    have hv : val B64 Dl = 2 ^ s * val B64 y := by
      have h1 := val_split B64 Ly m (by omega)
      rw [← e0, y3] at h1
      have h2 : val B64 (Ly.drop m) = 0 := by
        apply Nat.eq_zero_of_not_pos; intro h3
        have : B64 ^ m * 1 ≤ B64 ^ m * val B64 (Ly.drop m) := Nat.mul_le_mul_left _ h3
        omega
      rw [h2] at h1; omega
    refine ⟨hd, hv, ?_, hl⟩
    apply Nat.pos_of_ne_zero; intro h0
    have h1 := val_take_succD B64 Dl (m - 1)
    rw [show m - 1 + 1 = m from by omega, List.take_of_length_le (by omega), h0, Nat.mul_zero, Nat.add_zero, hv] at h1
    have h2 := val_lt (Dl.take (m - 1)) (hd.take _)
    rw [List.length_take, hl, Nat.min_eq_left (by omega)] at h2
    have h3 : 1 * val B64 y ≤ 2 ^ s * val B64 y := Nat.mul_le_mul_right _ d4
    omega)
  go_wp2_with fail
  go_loopw [12] (fun i wr => ∃ (k : Nat) (z : Int) (L Q : List Nat), k ≤ n - m + 1 ∧ i = .int .i64 z ∧ z + 1 = k ∧ Row wr w.heap.size 76 L ∧ Row wr w2.heap.size 76 Ly ∧ Row wr w3.heap.size 76 Q ∧ Below w.heap.size w wr ∧
      Hid (L.length = n + 1 ∧ Dig B64 L ∧ Q.length = n - m + 1 ∧ Dig B64 (Q.drop k) ∧ val B64 L < 2 ^ s * val B64 y * B64 ^ k ∧ 2 ^ s * val B64 x = val B64 (Q.drop k) * (2 ^ s * val B64 y) * B64 ^ k + val B64 L)) (fun i _ => (intOf i + 1).toNat)
  case atStart => exact ⟨n - m + 1, ((n - m : Nat) : Int), Lx, List.replicate (n - m + 1) 0, Nat.le_refl _, rfl, by omega, hrx4, hry4, hrq, hb4, hiD (by
      obtain ⟨x1, x2, x3⟩ := HX.out
      refine ⟨x1, x2, by simp, by rw [List.drop_of_length_le (by simp)]; exact Dig.nil _, by rw [x3]; exact hstart.out, ?_⟩
      rw [List.drop_of_length_le (by simp), x3, val_nil]; simp)⟩
  case round =>
    obtain ⟨k, z', L, Q, hk, rfl, hz', hrL, hrY, hrQ, hbel, hinv⟩ := hrel
    clear hrx4 hry4 hrq hb4
    by_cases h0 : k = 0
    · obtain rfl : z' = -1 := by omega
      subst h0
      have hfin : Hid (val B64 Q = val B64 x / val B64 y ∧ val B64 L / 2 ^ s = val B64 x % val B64 y ∧ Dig B64 Q ∧ Q.length = n - m + 1 ∧ L.length = n + 1 ∧ Dig B64 L) := hiD (by
        obtain ⟨i1, i2, i3, i4, i5, i6⟩ := hinv.out
        obtain ⟨d1, d2, d3, d4, -⟩ := HD.out
        rw [List.drop_zero] at i4 i6
        rw [Nat.pow_zero, Nat.mul_one] at i5 i6
        obtain ⟨e1, e2⟩ := quo_end d4 d3 i6 i5
        exact ⟨e1, e2, i4, i3, i1, i2⟩)
      have hsb := shiftBack_any w.heap.size (n + 1) (n + 1) L s wr (by omega) (by omega) hrL hfin.out.2.2.2.2.1 hfin.out.2.2.2.2.2 hs
      have Hsb := hiD hsb
      clear hsb hz' hinv
      go_wp2_with fail
      refine Hsb.out.mono ?_
      rintro e w5 ⟨L5, rfl, hr5, hl5, hd5, hv5, ho5⟩
      have hrQ5 : Row w5 w3.heap.size 76 Q := ho5.row hrQ (by omega)
      have hb5 := Only.below hbel ho5 (Nat.le_refl _)
      have ht1 := trimmed_any (some ⟨w3.heap.size, 0, none⟩) (n - m + 1) (n - m + 1) Q w5 (by unfold maxLen; omega) (Nat.le_refl _) (hrQ5.rd0 _ hfin.out.2.2.2.1.symm)
      have ht2 := trimmed_any (some ⟨w.heap.size, 0, none⟩) (n + 1) (n + 1) L5 w5 (by unfold maxLen; omega) (Nat.le_refl _) (hr5.rd0 _ hl5.symm)
      have Ht1 := hiD ht1
      have Ht2 := hiD ht2
      have hq1 : Hid (∀ e w', Trim (some ⟨w3.heap.size, 0, none⟩) (n - m + 1) (n - m + 1) Q w5 e w' → ∃ v, e = .returned v ∧ w5 = w' ∧ Hid (NatAt w5 v (val B64 x / val B64 y))) := hiD (by
        intro e w' h
        obtain ⟨j, hj, rfl, rfl, hcan, hv⟩ := trim_canon hfin.out.2.2.2.1 hfin.out.2.2.1 h
        exact ⟨_, rfl, rfl, hiD ⟨_, j, _, _, rfl, by omega, (hrQ5.rd0 _ hfin.out.2.2.2.1.symm).take j hj, hcan, by rw [hv]; exact hfin.out.1⟩⟩)
      have hq2 : Hid (∀ e w', Trim (some ⟨w.heap.size, 0, none⟩) (n + 1) (n + 1) L5 w5 e w' → ∃ v, e = .returned v ∧ w5 = w' ∧ Hid (NatAt w5 v (val B64 x % val B64 y))) := hiD (by
        intro e w' h
        obtain ⟨j, hj, rfl, rfl, hcan, hv⟩ := trim_canon hl5 hd5 h
        exact ⟨_, rfl, rfl, hiD ⟨_, j, _, _, rfl, by omega, (hr5.rd0 _ hl5.symm).take j hj, hcan, by rw [hv, hv5]; exact hfin.out.2.1⟩⟩)
      clear ht1 ht2 hrQ5
      go_wp2_with fail
      refine Ht1.out.mono ?_
      intro e w6 h6
      obtain ⟨v6, rfl, rfl, hv6⟩ := hq1.out e w6 h6
      clear h6
      go_wp2_with fail
      refine Ht2.out.mono ?_
      intro e w7 h7
      obtain ⟨v7, rfl, rfl, hv7⟩ := hq2.out e w7 h7
      clear h7
      go_wp2_with fail
      go_ret2
      exact ⟨v6, v7, rfl, hv6.out, hv7.out, hb5⟩
    · obtain ⟨j, rfl⟩ : ∃ j : Nat, z' = j := ⟨z'.toNat, by omega⟩
      obtain rfl : k = j + 1 := by omega
      clear hz' h0
      have hjn : (j : Int) + m ≤ n := by omega
      have hpre : Hid ((j + (m + 1) ≤ L.length) ∧ Dig B64 (seg L j (m + 1)) ∧ val B64 (seg L j (m + 1)) < val B64 Dl * B64 ∧ L.length = n + 1 ∧ Q.length = n - m + 1) := hiD (by
        obtain ⟨i1, i2, i3, i4, i5, i6⟩ := hinv.out
        have hl : j + (m + 1) ≤ L.length := by omega
        have h1 := top_zero hl B64_pos HD.out.1 i5
        rw [HDl.out.2.1]
        exact ⟨hl, (i2.drop j).take _, h1.2, i1, i3⟩)
      have hrd : Rd wr (some ⟨w2.heap.size, 0, none⟩) m Dl := by
        rw [hDl.out]; exact hrY.rd 0 m (by rw [HY.out.1]; omega)
      have htm := takeMultiple_any w.heap.size j m (n + 1 - j) L (some ⟨w2.heap.size, 0, none⟩) (m + 1) Dl wr (by omega) (by omega) hpre.out.1 hrL hrd (.inr fun b o h => by cases h; omega) hpre.out.2.1 HDl.out.1 HDl.out.2.2.1 hpre.out.2.2.1
      have Htm := hiD htm
      have hjc : ¬ n + 1 = j := by omega
      clear htm hrd
      go_wp2_with fail
      rw [show j + m + 1 - j = m + 1 from by omega]
      refine Htm.out.mono ?_
      rintro e w5 ⟨L', qd, hput, hdig', hqB, hqe, hqlt, rfl, ho5, hr5⟩
      have hinv' : Hid (L'.length = n + 1 ∧ Dig B64 L' ∧ (Q.set j qd).length = n - m + 1 ∧ Dig B64 ((Q.set j qd).drop j) ∧ val B64 L' < 2 ^ s * val B64 y * B64 ^ j ∧ 2 ^ s * val B64 x = val B64 ((Q.set j qd).drop j) * (2 ^ s * val B64 y) * B64 ^ j + val B64 L') := hiD (by
        obtain ⟨i1, i2, i3, i4, i5, i6⟩ := hinv.out
        obtain ⟨p1, -, -, -, -⟩ := hpre.out
        rw [HDl.out.2.1] at hqe hqlt
        obtain ⟨s1, s2⟩ := quo_step p1 B64_pos HD.out.1 i5 i2 hput hqe hqlt
        have hjQ : j < (Q.set j qd).length := by rw [List.length_set]; omega
        have hd : (Q.set j qd).drop (j + 1) = Q.drop (j + 1) := List.drop_set_of_lt (by omega)
        have hg : (Q.set j qd).getD j 0 = qd := by rw [List.getD_eq_getElem?_getD, List.getElem?_set_self (by omega)]; rfl
        have hv := drop_succ_val (Q.set j qd) j hjQ
        rw [hd, hg] at hv
        refine ⟨by rw [hput.length]; exact i1, ?_, by rw [List.length_set]; exact i3, ?_, s1, ?_⟩
        · have e1 : L' = L'.take j ++ (seg L' j (m + 1) ++ L'.drop (j + (m + 1))) := by
            have h1 : L'.drop j = seg L' j (m + 1) ++ L'.drop (j + (m + 1)) := by
              rw [← List.drop_drop]; exact (List.take_append_drop _ _).symm
            rw [← h1, List.take_append_drop]
          rw [e1, hput.before, hput.behind]
          exact (i2.take j).append (hdig'.append (i2.drop _))
        · rw [List.drop_eq_getElem_cons hjQ, hd]
          have : (Q.set j qd)[j] = qd := by simp
          rw [this]
          exact (Dig.one hqB).append i4
        · rw [hv]; exact quo_inv i6 s2)
      have hY5 : Row w5 w2.heap.size 76 Ly := ho5.row hrY (by omega)
      have hQ5 : Row w5 w3.heap.size 76 Q := ho5.row hrQ (by omega)
      have hcell := hQ5.cell j (by rw [hpre.out.2.2.2.2]; omega)
      have hfree := hQ5.free j
      have hb5 := Only.below hbel ho5 (Nat.le_refl _)
      have hL6 : ∀ u, Row (w5.setCell ⟨w3.heap.size, j, none⟩ u) w.heap.size 76 L' := fun u => (Below.heap_setCell _ _ _ _ (by simp; omega)).trans hr5
      have hY6 : ∀ u, Row (w5.setCell ⟨w3.heap.size, j, none⟩ u) w2.heap.size 76 Ly := fun u => (Below.heap_setCell _ _ _ _ (by simp; omega)).trans hY5
      have hB6 : ∀ u, Below w.heap.size w (w5.setCell ⟨w3.heap.size, j, none⟩ u) := fun u => hb5.setCell (by simp; omega) _
      have HL6 := hiD hL6
      have HY6 := hiD hY6
      have HB6 := hiD hB6
      clear hput hdig' hqe hqlt hinv hL6 hY6 hB6
      go_wp2_with fail
      go_roundw
      case rel => exact ⟨j, (j : Int) - 1, L', _, by omega, rfl, by omega, HL6.out _, HY6.out _, hQ5.set _ _, HB6.out _, hinv'⟩
      case measure => simp [intOf]
theorem divided_nat (u v : Value) (a b K : Nat) (w : World) (hK : K + 2 ≤ most) (ha : a < B64 ^ K) (hb : b < B64 ^ K) (hb0 : 0 < b) (hu : NatAt w u a) (hv : NatAt w v b) : Calls Tryz.prog 135 #[u, v] w (QuoPost a b w) := by
  by_cases hlt : a < b
  · exact divided_less u v a b K w (by omega) ha hb hu hv hlt
  · have hc := compare_nat u v a b K w (by omega) ha hb hu hv
    obtain ⟨p, n, c, x, rfl, h1, h2, h3, h4⟩ := hu
    obtain ⟨q, m, d, y, rfl, g1, g2, g3, g4⟩ := hv
    have hn := pow_most h3 h4 ha h2
    have hmn : m ≤ n := by
      have := Canon.length_le g3 h3.1 (by rw [h4, g4]; omega)
      rw [h2.len, g2.len] at this; exact this
    subst h4 g4
    have hm0 : m ≠ 0 := by
      rintro rfl
      have : y = [] := List.eq_nil_of_length_eq_zero g2.len
      rw [this] at hb0; simp [val] at hb0
    by_cases hm1 : m = 1
    · subst hm1
      exact divided_limb p n c x q d y w (by omega) h2 g2 h3 g3 hlt (hiD hc)
    · obtain ⟨m', rfl⟩ : ∃ m', m = m' + 2 := ⟨m - 2, by omega⟩
      exact divided_long p n c x q m' d y w (by omega) hmn h2 g2 h3 g3 hlt (hiD hc)
def GcdPost (a b : Nat) (w : World) (e : Ending) (w' : World) : Prop := e = .returned (.int .u64 ((Nat.gcd a b : Nat) : Int)) ∧ ∃ k, w.drewN k = w'
theorem commonDivisor_any (a b : Nat) (w : World) : Calls Tryz.prog 185 #[.int .u64 a, .int .u64 b] w (GcdPost a b w) := by
  go_enter Tryz.func185, Tryz.ntmps185
  go_wp2_with fail
  go_loopw [0, 1] (fun xv yv wr => ∃ (x y t : Nat), xv = .int .u64 x ∧ yv = .int .u64 y ∧ Hid (Nat.gcd x y = Nat.gcd a b) ∧ wr = w.drewN t) (fun _ yv _ => (intOf yv).toNat)
  case atStart => exact ⟨a, b, 0, rfl, rfl, hiD rfl, rfl⟩
  case round =>
    obtain ⟨x, y, t, rfl, rfl, hg, rfl⟩ := hrel
    by_cases h0 : y = 0
    · subst h0
      have hx : Hid (Nat.gcd a b = x) := hiD (by rw [← hg.out, Nat.gcd_zero_right])
      go_wp2_with fail
      go_ret
      exact ⟨by rw [hx.out]; rfl, t, rfl⟩
    · have h1 : ((y : Int) != 0) = true := by simpa using h0
      have h2 : (1 : Int) ≤ y := by omega
      have h3 : (0 : Int) ≤ x := by omega
      have hlt : Hid (x % y < y) := hiD (Nat.mod_lt _ (by omega))
      have hg' : Hid (Nat.gcd y (x % y) = Nat.gcd a b) := hiD (by rw [← hg.out, Nat.gcd_comm x y, Nat.gcd_rec y x, Nat.gcd_comm])
      have he : Hid ((x : Int) % y = ((x % y : Nat) : Int)) := hiD (Int.natCast_emod _ _).symm
      clear h0
      go_wp2_with fail
      go_quiet (fail)
      go_wp2_with fail
      go_roundw
      case rel => exact ⟨y, x % y, _, rfl, by rw [he.out], hg', World.drewN_drewN _ _ _⟩
      case measure => simp only [intOf]; rw [he.out]; have := hlt.out; omega
end Go.Proofs.YtoegbjmoecbjdaaGreatDoor
