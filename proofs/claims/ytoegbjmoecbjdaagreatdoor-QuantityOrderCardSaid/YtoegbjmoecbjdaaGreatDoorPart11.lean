/- Power at any exponent. Units: isPower, inRange, ValidUnit, isPlain, factorOf, offsetOf. Units: ValidUnit, isPlain, factorOf, offsetOf. Units: isPlain, factorOf, offsetOf. Units: plain. -/
import Derived.Test.YtoegbjmoecbjdaaGreatDoorPart10
set_option maxHeartbeats 3200000
set_option maxRecDepth 100000
namespace Go.Proofs.YtoegbjmoecbjdaaGreatDoor
open Go.RowKit Go.Lib Big
theorem ratv_pow (s : Bool) (a b E : Nat) (hb : 0 < b) : ratv (s && E % 2 == 1) (a ^ E) (b ^ E) = ratv s a b ^ E := by
  have h1 := natCast_ne hb
  induction E with
  | zero =>
    have : (s && (0 % 2 == 1)) = false := by cases s <;> rfl
    rw [this, Nat.pow_zero, Nat.pow_zero, Rat.pow_zero]
    unfold ratv; simp; grind
  | succ E ih =>
    rw [Rat.pow_succ, ← ih, Nat.pow_succ, Nat.pow_succ, ← ratv_mul (Nat.pow_pos hb) hb]
    congr 1
    rcases Nat.mod_two_eq_zero_or_one E with h | h
    · rw [h, show (E + 1) % 2 = 1 from by omega]; cases s <;> rfl
    · rw [h, show (E + 1) % 2 = 0 from by omega]; cases s <;> rfl
theorem powN_is (x : Value) (q : Rat) (E K : Nat) (w : World) (hE : E ≤ 1000000) (hK : K * E + 1 + K ≤ most) (hx : RatIs w x q K) : Calls Tryz.prog 102 #[x, .int .i64 E] w (IsPost (q ^ E) (K * E + 1) w) := by
  obtain ⟨s, a, b, ⟨u, v, rfl, hu, hv, hs⟩, rfl, h3, h4, h5⟩ := hx
  have key : Calls Tryz.prog 102 #[.agg #[.bool s, u, v], .int .i64 E] w (RatPost (s && E % 2 == 1) (a ^ E) (b ^ E) w) := by
    cases s
    · exact pow_pos u v a b E K w hE hK h4 h5 hu hv
    · refine pow_neg u v a b E K (true && E % 2 == 1) ?_ w hE hK h4 h5 hu hv
      rw [Bool.true_and, Bool.eq_iff_iff, beq_iff_eq, beq_iff_eq, Int.tmod_eq_emod_of_nonneg (by omega)]
      omega
  refine key.mono ?_
  rintro e w' ⟨z, rfl, hz, hb⟩
  refine ⟨z, rfl, ⟨_, _, _, hz, ?_, Nat.pow_pos h3, pow_lt h4 E, pow_lt h5 E⟩, hb⟩
  rw [ratv_drop, ratv_pow s a b E h3]
theorem one_is (w : World) : Calls Tryz.prog 84 #[.int .i64 1] w (IsPost 1 1 w) := by
  refine (int_any 1 w (by omega)).mono ?_
  rintro e w' ⟨z, rfl, hz, hb⟩
  have h1 : 1 < B64 ^ 1 := by rw [Nat.pow_one, B64_eq]; omega
  refine ⟨z, rfl, ⟨_, _, _, hz, ?_, by omega, h1, h1⟩, hb⟩
  rw [ratv_drop]; unfold ratv; simp; grind
theorem powM_is (x : Value) (q : Rat) (n : Int) (E K : Nat) (w : World) (hn : n < 0) (hn2 : -1000000 ≤ n) (hnE : -n = E) (hK1 : 1 ≤ K) (hK2 : K ≤ 1000000) (hK : 2 * K * E + 1 + 2 * K ≤ most) (hq : q ≠ 0) (hx : RatIs w x q K) : Calls Tryz.prog 102 #[x, .int .i64 n] w (IsPost ((1 / q) ^ E) (2 * K * E + 1) w) := by
  have Hx := hiD hx
  obtain ⟨bs, p1, n1, k1, p2, n2, k2, rfl⟩ := hx.agg
  have hq1 : Hid (∀ W y, RatIs W y 1 1 → Below w.heap.size w W → Calls Tryz.prog 82 #[y, .agg #[.bool bs, .slice p1 n1 k1, .slice p2 n2 k2]] W (IsPost (1 / q) (2 * K) W)) := hiD fun W y hy hb => quo_is y _ 1 q K W (by omega) hq (hy.more hK1) (Hx.out.below hb)
  have hp1 : Hid (∀ W y, RatIs W y (1 / q) (2 * K) → Calls Tryz.prog 102 #[y, .int .i64 (IntKind.i64.wrap (-n))] W (IsPost ((1 / q) ^ E) (2 * K * E + 1) W)) := hiD fun W y hy => by
    rw [show IntKind.i64.wrap (-n) = (E : Int) from by rw [hnE]; exact IntWalk.i64_in _ (by omega)]
    exact powN_is y (1 / q) E (2 * K) W (by omega) hK hy
  generalize (1 / q) ^ E = r at hp1 ⊢
  have hone := One.start w bs (.slice p1 n1 k1) (.slice p2 n2 k2)
  have Hone := hiD hone
  obtain ⟨-, c0, c1, c2⟩ := hone.all
  have hdec : decide (n < 0) = true := by simp [hn]
  clear hone hK hK1 hK2 hx hnE
  go_enter Tryz.func102, Tryz.ntmps102
  go_wp2_with fail
  go_region_held3 (fun w' => One w.heap.size bs (.slice p1 n1 k1) (.slice p2 n2 k2) w w' ∧ w'.cell? ⟨w.heap.size, 0, none⟩ = some (.bool bs) ∧ w'.cell? ⟨w.heap.size, 1, none⟩ = some (.slice p1 n1 k1) ∧ w'.cell? ⟨w.heap.size, 2, none⟩ = some (.slice p2 n2 k2))
    (first | exact One.all (One.drew Hone.out) | exact One.all Hone.out | (go_split_ands; exact One.all (One.next (by assumption) hb1)) | (go_split_ands; exact One.all (One.next (by assumption) hb2)) | (go_split_ands; exact One.all (One.next (by assumption) hb3)) | (go_split_ands; exact One.all (One.put3 (by assumption) (Nat.le_refl _) _ _ _ _ _ _ _)) | go_keep)
    (first | (go_at_call 84; refine (one_is _).mono ?_; rintro e w1 ⟨vt, rfl, hvt, hb1⟩) | (go_at_call 82; go_split_ands; refine (hq1.out _ _ hvt (One.below (by assumption))).mono ?_; rintro e w2 ⟨vb, rfl, hvb, hb2⟩) | (go_at_call 102; go_split_ands; refine (hp1.out _ _ hvb).mono ?_; rintro e w3 ⟨vr, rfl, hvr, hb3⟩; have htw := One.next (by assumption) hb3; obtain ⟨sr, ar, br, ⟨ur, wr, rfl, hur, hwr, hsr⟩, hr2⟩ := hvr; obtain ⟨pr, nr, cr, rfl⟩ := hur.slice; obtain ⟨pw, nw, cw, rfl⟩ := hwr.slice; obtain ⟨z0, z1, z2, l0, l1, l2, f0, f1, f2⟩ := One.slots htw))
  go_wp2_with fail
  have q1 := htw.nat3 (Nat.le_refl _) hur sr pr pw nr cr nw cw
  have q2 := htw.nat3 (Nat.le_refl _) hwr sr pr pw nr cr nw cw
  have q3 := (htw.put3 (Nat.le_refl _) sr pr pw nr cr nw cw).below
  have hfin : Hid (∀ W, W = (((w3.setCell ⟨w.heap.size + 1, 0, none⟩ (.bool sr)).setCell ⟨w.heap.size + 1, 1, none⟩ (.slice pr nr cr)).setCell ⟨w.heap.size + 1, 2, none⟩ (.slice pw nw cw)) → IsPost r (2 * K * E + 1) w (.returned (.agg #[.bool sr, .slice pr nr cr, .slice pw nw cw])) W) := hiD (by
    rintro W rfl
    exact ⟨_, rfl, ⟨sr, ar, br, ⟨_, _, rfl, q1, q2, hsr⟩, hr2⟩, q3⟩)
  refine bodyPost_ret (v := .agg #[.bool sr, .slice pr nr cr, .slice pw nw cw]) (by simp [results, Tryz.results102, go_sem, l0, l1, l2]) rfl ?_
  exact hfin.out _ rfl
theorem inv_pow (q : Rat) (m : Nat) : (q ^ m)⁻¹ = (1 / q) ^ m := by
  induction m with
  | zero => rw [Rat.pow_zero, Rat.pow_zero]; exact Rat.inv_eq_of_mul_eq_one (Rat.mul_one 1)
  | succ m ih => rw [Rat.pow_succ, Rat.pow_succ, Rat.inv_mul_rev, ih, Rat.mul_comm, Rat.div_def, Rat.one_mul]
theorem pow_is (x : Value) (q : Rat) (n : Int) (K : Nat) (w : World) (hn1 : -1000 ≤ n) (hn2 : n ≤ 1000) (hK1 : 1 ≤ K) (hK : K ≤ 1000) (hq : n < 0 → q ≠ 0) (hx : RatIs w x q K) : Calls Tryz.prog 102 #[x, .int .i64 n] w (IsPost (q ^ n) (2 * K * n.natAbs + 1) w) := by
  have hbig : 2 * K * n.natAbs ≤ 2 * 1000 * 1000 := Nat.mul_le_mul (by omega) (by omega)
  by_cases h : n < 0
  · have e : q ^ n = (1 / q) ^ n.natAbs := by
      obtain ⟨m, hm⟩ : ∃ m : Nat, n = -(m : Int) := ⟨n.natAbs, by omega⟩
      subst hm
      have h2 : (-(m : Int)).natAbs = m := by omega
      rw [h2, Rat.zpow_neg, Rat.zpow_natCast]
      exact inv_pow q m
    rw [e]
    exact powM_is x q n n.natAbs K w h (by omega) (by omega) hK1 (by omega) (by unfold most; omega) (hq h) hx
  · obtain ⟨m, rfl⟩ : ∃ m : Nat, n = (m : Int) := ⟨n.toNat, by omega⟩
    have h2 : ((m : Int)).natAbs = m := by omega
    rw [h2] at hbig ⊢
    rw [Rat.zpow_natCast]
    have hle : K * m ≤ 2 * K * m := Nat.mul_le_mul_right _ (by omega)
    refine (powN_is x q m K w (by omega) (by unfold most; omega) hx).mono ?_
    rintro e w' ⟨z, rfl, hz, hb⟩
    exact ⟨z, rfl, hz.more (by omega), hb⟩
theorem isPower_any (n : Int) (w : World) : Calls Tryz.prog 99 #[.int .i64 n] w fun e w' => e = .returned (.bool (isPow n)) ∧ w = w' := by
  unfold isPow
  by_cases h : -12 ≤ n
  · have h1 : decide (-12 ≤ n) = true := decide_eq_true h
    go_enter Tryz.func99, Tryz.ntmps99
    go_wp2_with fail
    go_ret
    exact ⟨ret_bool (by simp [h]), rfl⟩
  · have h1 : decide (-12 ≤ n) = false := decide_eq_false h
    go_enter Tryz.func99, Tryz.ntmps99
    go_wp2_with fail
    go_ret
    exact ⟨ret_bool (by simp), rfl⟩
theorem inRange_any (p0 p1 p2 p3 p4 p5 p6 : Int) (w : World) : Calls Tryz.prog 145 #[.agg #[.int .i64 p0, .int .i64 p1, .int .i64 p2, .int .i64 p3, .int .i64 p4, .int .i64 p5, .int .i64 p6]] w fun e w' => e = .returned (.bool (inR [p0, p1, p2, p3, p4, p5, p6])) ∧ Below w.heap.size w w' := by
  have i0 : ∀ W, (Instr.index 51 (.agg #[.int .i64 p0, .int .i64 p1, .int .i64 p2, .int .i64 p3, .int .i64 p4, .int .i64 p5, .int .i64 p6]) (.int .i64 0)).run Tryz.prog W = .ok (.int .i64 p0) W := fun _ => by kernel_rfl
  have i1 : ∀ W, (Instr.index 51 (.agg #[.int .i64 p0, .int .i64 p1, .int .i64 p2, .int .i64 p3, .int .i64 p4, .int .i64 p5, .int .i64 p6]) (.int .i64 1)).run Tryz.prog W = .ok (.int .i64 p1) W := fun _ => by kernel_rfl
  have i2 : ∀ W, (Instr.index 51 (.agg #[.int .i64 p0, .int .i64 p1, .int .i64 p2, .int .i64 p3, .int .i64 p4, .int .i64 p5, .int .i64 p6]) (.int .i64 2)).run Tryz.prog W = .ok (.int .i64 p2) W := fun _ => by kernel_rfl
  have i3 : ∀ W, (Instr.index 51 (.agg #[.int .i64 p0, .int .i64 p1, .int .i64 p2, .int .i64 p3, .int .i64 p4, .int .i64 p5, .int .i64 p6]) (.int .i64 3)).run Tryz.prog W = .ok (.int .i64 p3) W := fun _ => by kernel_rfl
  have i4 : ∀ W, (Instr.index 51 (.agg #[.int .i64 p0, .int .i64 p1, .int .i64 p2, .int .i64 p3, .int .i64 p4, .int .i64 p5, .int .i64 p6]) (.int .i64 4)).run Tryz.prog W = .ok (.int .i64 p4) W := fun _ => by kernel_rfl
  have i5 : ∀ W, (Instr.index 51 (.agg #[.int .i64 p0, .int .i64 p1, .int .i64 p2, .int .i64 p3, .int .i64 p4, .int .i64 p5, .int .i64 p6]) (.int .i64 5)).run Tryz.prog W = .ok (.int .i64 p5) W := fun _ => by kernel_rfl
  have i6 : ∀ W, (Instr.index 51 (.agg #[.int .i64 p0, .int .i64 p1, .int .i64 p2, .int .i64 p3, .int .i64 p4, .int .i64 p5, .int .i64 p6]) (.int .i64 6)).run Tryz.prog W = .ok (.int .i64 p6) W := fun _ => by kernel_rfl
  go_enter Tryz.func145, Tryz.ntmps145
  go_wp2_with fail
  go_loop [6] (fun i => ∃ k : Nat, k ≤ 7 ∧ i = .int .i64 k ∧ Hid (inR ([p0, p1, p2, p3, p4, p5, p6].take k) = true)) (fun i => 7 - (intOf i).toNat)
  case atStart => exact ⟨0, by omega, rfl, hiD rfl⟩
  case round =>
    obtain ⟨k, hk, rfl, hin⟩ := hrel
    match k, hk, hin with
    | 0, _, hin =>
      by_cases hp : isPow p0 = true
      · have hn : Hid (inR ([p0, p1, p2, p3, p4, p5, p6].take 1) = true) := hiD (by have := hin.out; simp [inR] at this ⊢; simp [hp])
        go_wp2_with fail
        refine (isPower_any _ _).mono ?_
        rintro e w1 ⟨rfl, rfl⟩
        rw [hp]
        go_wp2_with fail
        go_round
        case rel => exact ⟨1, by omega, by go_num, hn⟩
        case measure => (simp [intOf]) <;> omega
      · rw [Bool.not_eq_true] at hp
        have hn : Hid (inR [p0, p1, p2, p3, p4, p5, p6] = false) := hiD (by simp [inR, hp])
        go_wp2_with fail
        refine (isPower_any _ _).mono ?_
        rintro e w1 ⟨rfl, rfl⟩
        rw [hp]
        go_wp2_with fail
        go_ret
        exact ⟨by rw [hn.out]; rfl, bea _ _⟩
    | 1, _, hin =>
      by_cases hp : isPow p1 = true
      · have hn : Hid (inR ([p0, p1, p2, p3, p4, p5, p6].take 2) = true) := hiD (by have := hin.out; simp [inR] at this ⊢; simp [this, hp])
        go_wp2_with fail
        refine (isPower_any _ _).mono ?_
        rintro e w1 ⟨rfl, rfl⟩
        rw [hp]
        go_wp2_with fail
        go_round
        case rel => exact ⟨2, by omega, by go_num, hn⟩
        case measure => (simp [intOf]) <;> omega
      · rw [Bool.not_eq_true] at hp
        have hn : Hid (inR [p0, p1, p2, p3, p4, p5, p6] = false) := hiD (by simp [inR, hp])
        go_wp2_with fail
        refine (isPower_any _ _).mono ?_
        rintro e w1 ⟨rfl, rfl⟩
        rw [hp]
        go_wp2_with fail
        go_ret
        exact ⟨by rw [hn.out]; rfl, bea _ _⟩
    | 2, _, hin =>
      by_cases hp : isPow p2 = true
      · have hn : Hid (inR ([p0, p1, p2, p3, p4, p5, p6].take 3) = true) := hiD (by have := hin.out; simp [inR] at this ⊢; simp [this, hp])
        go_wp2_with fail
        refine (isPower_any _ _).mono ?_
        rintro e w1 ⟨rfl, rfl⟩
        rw [hp]
        go_wp2_with fail
        go_round
        case rel => exact ⟨3, by omega, by go_num, hn⟩
        case measure => (simp [intOf]) <;> omega
      · rw [Bool.not_eq_true] at hp
        have hn : Hid (inR [p0, p1, p2, p3, p4, p5, p6] = false) := hiD (by simp [inR, hp])
        go_wp2_with fail
        refine (isPower_any _ _).mono ?_
        rintro e w1 ⟨rfl, rfl⟩
        rw [hp]
        go_wp2_with fail
        go_ret
        exact ⟨by rw [hn.out]; rfl, bea _ _⟩
    | 3, _, hin =>
      by_cases hp : isPow p3 = true
      · have hn : Hid (inR ([p0, p1, p2, p3, p4, p5, p6].take 4) = true) := hiD (by have := hin.out; simp [inR] at this ⊢; simp [this, hp])
        go_wp2_with fail
        refine (isPower_any _ _).mono ?_
        rintro e w1 ⟨rfl, rfl⟩
        rw [hp]
        go_wp2_with fail
        go_round
        case rel => exact ⟨4, by omega, by go_num, hn⟩
        case measure => (simp [intOf]) <;> omega
      · rw [Bool.not_eq_true] at hp
        have hn : Hid (inR [p0, p1, p2, p3, p4, p5, p6] = false) := hiD (by simp [inR, hp])
        go_wp2_with fail
        refine (isPower_any _ _).mono ?_
        rintro e w1 ⟨rfl, rfl⟩
        rw [hp]
        go_wp2_with fail
        go_ret
        exact ⟨by rw [hn.out]; rfl, bea _ _⟩
    | 4, _, hin =>
      by_cases hp : isPow p4 = true
      · have hn : Hid (inR ([p0, p1, p2, p3, p4, p5, p6].take 5) = true) := hiD (by have := hin.out; simp [inR] at this ⊢; simp [this, hp])
        go_wp2_with fail
        refine (isPower_any _ _).mono ?_
        rintro e w1 ⟨rfl, rfl⟩
        rw [hp]
        go_wp2_with fail
        go_round
        case rel => exact ⟨5, by omega, by go_num, hn⟩
        case measure => (simp [intOf]) <;> omega
      · rw [Bool.not_eq_true] at hp
        have hn : Hid (inR [p0, p1, p2, p3, p4, p5, p6] = false) := hiD (by simp [inR, hp])
        go_wp2_with fail
        refine (isPower_any _ _).mono ?_
        rintro e w1 ⟨rfl, rfl⟩
        rw [hp]
        go_wp2_with fail
        go_ret
        exact ⟨by rw [hn.out]; rfl, bea _ _⟩
    | 5, _, hin =>
      by_cases hp : isPow p5 = true
      · have hn : Hid (inR ([p0, p1, p2, p3, p4, p5, p6].take 6) = true) := hiD (by have := hin.out; simp [inR] at this ⊢; simp [this, hp])
        go_wp2_with fail
        refine (isPower_any _ _).mono ?_
        rintro e w1 ⟨rfl, rfl⟩
        rw [hp]
        go_wp2_with fail
        go_round
        case rel => exact ⟨6, by omega, by go_num, hn⟩
        case measure => (simp [intOf]) <;> omega
      · rw [Bool.not_eq_true] at hp
        have hn : Hid (inR [p0, p1, p2, p3, p4, p5, p6] = false) := hiD (by simp [inR, hp])
        go_wp2_with fail
        refine (isPower_any _ _).mono ?_
        rintro e w1 ⟨rfl, rfl⟩
        rw [hp]
        go_wp2_with fail
        go_ret
        exact ⟨by rw [hn.out]; rfl, bea _ _⟩
    | 6, _, hin =>
      by_cases hp : isPow p6 = true
      · have hn : Hid (inR ([p0, p1, p2, p3, p4, p5, p6].take 7) = true) := hiD (by have := hin.out; simp [inR] at this ⊢; simp [this, hp])
        go_wp2_with fail
        refine (isPower_any _ _).mono ?_
        rintro e w1 ⟨rfl, rfl⟩
        rw [hp]
        go_wp2_with fail
        go_round
        case rel => exact ⟨7, by omega, by go_num, hn⟩
        case measure => (simp [intOf]) <;> omega
      · rw [Bool.not_eq_true] at hp
        have hn : Hid (inR [p0, p1, p2, p3, p4, p5, p6] = false) := hiD (by simp [inR, hp])
        go_wp2_with fail
        refine (isPower_any _ _).mono ?_
        rintro e w1 ⟨rfl, rfl⟩
        rw [hp]
        go_wp2_with fail
        go_ret
        exact ⟨by rw [hn.out]; rfl, bea _ _⟩
    | 7, _, hin =>
      have hn : Hid (inR [p0, p1, p2, p3, p4, p5, p6] = true) := hiD (by simpa using hin.out)
      go_wp2_with fail
      go_ret
      exact ⟨by rw [hn.out]; rfl, bea _ _⟩
def tU (f o : ByteArray) (p0 p1 p2 p3 p4 p5 p6 : Int) : UnitT := ⟨f.data.toList, o.data.toList, [p0, p1, p2, p3, p4, p5, p6]⟩
structure ResU (B : Nat) (w0 W : World) : Prop where
  size : B + 1 ≤ W.heap.size
  below : Below w0.heap.size w0 W
  z : ∃ z0 z1 z2 z3 z4 z5 z6 z7 z8 : Value, W.heap[B]? = some (.cells #[z0, z1, z2, z3, z4, z5, z6, z7, z8] 53 (0, 0))
section
variable {B : Nat} {w0 W W' : World}
theorem ResU.next (h : ResU B w0 W) (hb : Below W.heap.size W W') : ResU B w0 W' := by
  have hs := h.size
  obtain ⟨z0, z1, z2, z3, z4, z5, z6, z7, z8, hz⟩ := h.z
  exact ⟨Nat.le_trans hs hb.size, h.below.trans (hb.mono h.below.size), z0, z1, z2, z3, z4, z5, z6, z7, z8, (hb.block _ (by omega)).trans hz⟩
theorem ResU.slots (h : ResU B w0 W) : ∃ z0 z1 z2 z3 z4 z5 z6 z7 z8 : Value, (W.cell? ⟨B, 0, none⟩ = some z0 ∧ W.cell? ⟨B, 1, none⟩ = some z1 ∧ W.cell? ⟨B, 2, none⟩ = some z2 ∧ W.cell? ⟨B, 3, none⟩ = some z3 ∧ W.cell? ⟨B, 4, none⟩ = some z4 ∧ W.cell? ⟨B, 5, none⟩ = some z5 ∧ W.cell? ⟨B, 6, none⟩ = some z6 ∧ W.cell? ⟨B, 7, none⟩ = some z7 ∧ W.cell? ⟨B, 8, none⟩ = some z8) ∧ (W.frozen? ⟨B, 0, none⟩ = false ∧ W.frozen? ⟨B, 1, none⟩ = false ∧ W.frozen? ⟨B, 2, none⟩ = false ∧ W.frozen? ⟨B, 3, none⟩ = false ∧ W.frozen? ⟨B, 4, none⟩ = false ∧ W.frozen? ⟨B, 5, none⟩ = false ∧ W.frozen? ⟨B, 6, none⟩ = false ∧ W.frozen? ⟨B, 7, none⟩ = false ∧ W.frozen? ⟨B, 8, none⟩ = false) := by
  obtain ⟨z0, z1, z2, z3, z4, z5, z6, z7, z8, hz⟩ := h.z
  exact ⟨z0, z1, z2, z3, z4, z5, z6, z7, z8, ⟨ceh hz 0, ceh hz 1, ceh hz 2, ceh hz 3, ceh hz 4, ceh hz 5, ceh hz 6, ceh hz 7, ceh hz 8⟩, ⟨foh hz 0, foh hz 1, foh hz 2, foh hz 3, foh hz 4, foh hz 5, foh hz 6, foh hz 7, foh hz 8⟩⟩
theorem ResU.put9 (h : ResU B w0 W) (hB : w0.heap.size ≤ B) (a0 a1 a2 a3 a4 a5 a6 a7 a8 : Value) : Below w0.heap.size w0 (((((((((W.setCell ⟨B, 0, none⟩ a0).setCell ⟨B, 1, none⟩ a1).setCell ⟨B, 2, none⟩ a2).setCell ⟨B, 3, none⟩ a3).setCell ⟨B, 4, none⟩ a4).setCell ⟨B, 5, none⟩ a5).setCell ⟨B, 6, none⟩ a6).setCell ⟨B, 7, none⟩ a7).setCell ⟨B, 8, none⟩ a8) :=
  ((((((((h.below.setCell hB _).setCell hB _).setCell hB _).setCell hB _).setCell hB _).setCell hB _).setCell hB _).setCell hB _).setCell hB _
theorem ResU.put9_heap (h : ResU B w0 W) (a0 a1 a2 a3 a4 a5 a6 a7 a8 : Value) : (((((((((W.setCell ⟨B, 0, none⟩ a0).setCell ⟨B, 1, none⟩ a1).setCell ⟨B, 2, none⟩ a2).setCell ⟨B, 3, none⟩ a3).setCell ⟨B, 4, none⟩ a4).setCell ⟨B, 5, none⟩ a5).setCell ⟨B, 6, none⟩ a6).setCell ⟨B, 7, none⟩ a7).setCell ⟨B, 8, none⟩ a8).heap[B]? = some (.cells #[a0, a1, a2, a3, a4, a5, a6, a7, a8] 53 (0, 0)) := by
  obtain ⟨z0, z1, z2, z3, z4, z5, z6, z7, z8, hz⟩ := h.z
  have h0 : (W.setCell ⟨B, 0, none⟩ a0).heap[B]? = some (.cells #[a0, z1, z2, z3, z4, z5, z6, z7, z8] 53 (0, 0)) := heap_set B 0 _ 53 a0 hz
  have h1 : ((W.setCell ⟨B, 0, none⟩ a0).setCell ⟨B, 1, none⟩ a1).heap[B]? = some (.cells #[a0, a1, z2, z3, z4, z5, z6, z7, z8] 53 (0, 0)) := heap_set B 1 _ 53 a1 h0
  have h2 : (((W.setCell ⟨B, 0, none⟩ a0).setCell ⟨B, 1, none⟩ a1).setCell ⟨B, 2, none⟩ a2).heap[B]? = some (.cells #[a0, a1, a2, z3, z4, z5, z6, z7, z8] 53 (0, 0)) := heap_set B 2 _ 53 a2 h1
  have h3 : ((((W.setCell ⟨B, 0, none⟩ a0).setCell ⟨B, 1, none⟩ a1).setCell ⟨B, 2, none⟩ a2).setCell ⟨B, 3, none⟩ a3).heap[B]? = some (.cells #[a0, a1, a2, a3, z4, z5, z6, z7, z8] 53 (0, 0)) := heap_set B 3 _ 53 a3 h2
  have h4 : (((((W.setCell ⟨B, 0, none⟩ a0).setCell ⟨B, 1, none⟩ a1).setCell ⟨B, 2, none⟩ a2).setCell ⟨B, 3, none⟩ a3).setCell ⟨B, 4, none⟩ a4).heap[B]? = some (.cells #[a0, a1, a2, a3, a4, z5, z6, z7, z8] 53 (0, 0)) := heap_set B 4 _ 53 a4 h3
  have h5 : ((((((W.setCell ⟨B, 0, none⟩ a0).setCell ⟨B, 1, none⟩ a1).setCell ⟨B, 2, none⟩ a2).setCell ⟨B, 3, none⟩ a3).setCell ⟨B, 4, none⟩ a4).setCell ⟨B, 5, none⟩ a5).heap[B]? = some (.cells #[a0, a1, a2, a3, a4, a5, z6, z7, z8] 53 (0, 0)) := heap_set B 5 _ 53 a5 h4
  have h6 : (((((((W.setCell ⟨B, 0, none⟩ a0).setCell ⟨B, 1, none⟩ a1).setCell ⟨B, 2, none⟩ a2).setCell ⟨B, 3, none⟩ a3).setCell ⟨B, 4, none⟩ a4).setCell ⟨B, 5, none⟩ a5).setCell ⟨B, 6, none⟩ a6).heap[B]? = some (.cells #[a0, a1, a2, a3, a4, a5, a6, z7, z8] 53 (0, 0)) := heap_set B 6 _ 53 a6 h5
  have h7 : ((((((((W.setCell ⟨B, 0, none⟩ a0).setCell ⟨B, 1, none⟩ a1).setCell ⟨B, 2, none⟩ a2).setCell ⟨B, 3, none⟩ a3).setCell ⟨B, 4, none⟩ a4).setCell ⟨B, 5, none⟩ a5).setCell ⟨B, 6, none⟩ a6).setCell ⟨B, 7, none⟩ a7).heap[B]? = some (.cells #[a0, a1, a2, a3, a4, a5, a6, a7, z8] 53 (0, 0)) := heap_set B 7 _ 53 a7 h6
  have h8 : (((((((((W.setCell ⟨B, 0, none⟩ a0).setCell ⟨B, 1, none⟩ a1).setCell ⟨B, 2, none⟩ a2).setCell ⟨B, 3, none⟩ a3).setCell ⟨B, 4, none⟩ a4).setCell ⟨B, 5, none⟩ a5).setCell ⟨B, 6, none⟩ a6).setCell ⟨B, 7, none⟩ a7).setCell ⟨B, 8, none⟩ a8).heap[B]? = some (.cells #[a0, a1, a2, a3, a4, a5, a6, a7, a8] 53 (0, 0)) := heap_set B 8 _ 53 a8 h7
  exact h8
theorem ResU.start (w : World) : ResU w.heap.size w (w.alloc (.cells #[.string ⟨#[]⟩, .string ⟨#[]⟩, .int .i64 0, .int .i64 0, .int .i64 0, .int .i64 0, .int .i64 0, .int .i64 0, .int .i64 0] 53)) :=
  ⟨by simp, (Below.refl _ _).alloc (Nat.le_refl _) _, _, _, _, _, _, _, _, _, _, heap_new _ _⟩
end
def UnitPost (r : UnitT × Int) (w : World) (e : Ending) (w' : World) : Prop :=
  ∃ (f o : ByteArray) (p0 p1 p2 p3 p4 p5 p6 : Int), e = .returned (.tuple #[.agg #[.string f, .string o, .int .i64 p0, .int .i64 p1, .int .i64 p2, .int .i64 p3, .int .i64 p4, .int .i64 p5, .int .i64 p6], .int .i64 r.2]) ∧ tU f o p0 p1 p2 p3 p4 p5 p6 = r.1 ∧ Below w.heap.size w w'
theorem plain_long (x : Value) (p0 p1 p2 p3 p4 p5 p6 : Int) (q : Rat) (K : Nat) (w : World) (hK : K ≤ 1000000) (htab : Tab w) (hx : RatIs w x q K) (hl : txt q = []) : Calls Tryz.prog 100 #[x, .agg #[.int .i64 p0, .int .i64 p1, .int .i64 p2, .int .i64 p3, .int .i64 p4, .int .i64 p5, .int .i64 p6]] w (UnitPost (zeroU, 4) w) := by
  have ht : Hid (∀ W, Below w.heap.size w W → Calls Tryz.prog 64 #[x] W fun e w' => e = .returned (.string ⟨#[]⟩) ∧ Below W.heap.size W w') := hiD fun W hb => by
    have := qtext_is x q K W hK (hx.below hb) (htab.below hb)
    rwa [hl] at this
  obtain ⟨bs, q1, n1, k1, q2, n2, k2, rfl⟩ := hx.agg
  have hb0 := hiD ((bea w (.cells #[.bool bs, .slice q1 n1 k1, .slice q2 n2 k2] 66)).trans ((bea (w.alloc (.cells #[.bool bs, .slice q1 n1 k1, .slice q2 n2 k2] 66)) (.cells #[.int .i64 p0, .int .i64 p1, .int .i64 p2, .int .i64 p3, .int .i64 p4, .int .i64 p5, .int .i64 p6] 51)).mono (bea w (.cells #[.bool bs, .slice q1 n1 k1, .slice q2 n2 k2] 66)).size))
  have hres : Hid (ResU (w.heap.size + 1 + 1) ((w.alloc (.cells #[.bool bs, .slice q1 n1 k1, .slice q2 n2 k2] 66)).alloc (.cells #[.int .i64 p0, .int .i64 p1, .int .i64 p2, .int .i64 p3, .int .i64 p4, .int .i64 p5, .int .i64 p6] 51)) (((w.alloc (.cells #[.bool bs, .slice q1 n1 k1, .slice q2 n2 k2] 66)).alloc (.cells #[.int .i64 p0, .int .i64 p1, .int .i64 p2, .int .i64 p3, .int .i64 p4, .int .i64 p5, .int .i64 p6] 51)).alloc (.cells #[.string ⟨#[]⟩, .string ⟨#[]⟩, .int .i64 0, .int .i64 0, .int .i64 0, .int .i64 0, .int .i64 0, .int .i64 0, .int .i64 0] 53))) := hiD (by
    have := ResU.start ((w.alloc (.cells #[.bool bs, .slice q1 n1 k1, .slice q2 n2 k2] 66)).alloc (.cells #[.int .i64 p0, .int .i64 p1, .int .i64 p2, .int .i64 p3, .int .i64 p4, .int .i64 p5, .int .i64 p6] 51))
    rwa [show ((w.alloc (.cells #[.bool bs, .slice q1 n1 k1, .slice q2 n2 k2] 66)).alloc (.cells #[.int .i64 p0, .int .i64 p1, .int .i64 p2, .int .i64 p3, .int .i64 p4, .int .i64 p5, .int .i64 p6] 51)).heap.size = w.heap.size + 1 + 1 from by simp] at this)
  have hbx : Hid ((((w.alloc (.cells #[.bool bs, .slice q1 n1 k1, .slice q2 n2 k2] 66)).alloc (.cells #[.int .i64 p0, .int .i64 p1, .int .i64 p2, .int .i64 p3, .int .i64 p4, .int .i64 p5, .int .i64 p6] 51)).alloc (.cells #[.string ⟨#[]⟩, .string ⟨#[]⟩, .int .i64 0, .int .i64 0, .int .i64 0, .int .i64 0, .int .i64 0, .int .i64 0, .int .i64 0] 53)).heap[w.heap.size + 1]? = some (.cells #[.int .i64 p0, .int .i64 p1, .int .i64 p2, .int .i64 p3, .int .i64 p4, .int .i64 p5, .int .i64 p6] 51)) := hiD (by
    rw [heap_old _ _ _ (by simp), show w.heap.size + 1 = (w.alloc (.cells #[.bool bs, .slice q1 n1 k1, .slice q2 n2 k2] 66)).heap.size from by simp, heap_new])
  have h1 := ht.out _ (hb0.out.trans (hres.out.below.mono hb0.out.size))
  clear hx htab hl ht hbx
  go_enter Tryz.func100, Tryz.ntmps100
  go_wp2_with fail
  refine h1.mono ?_
  rintro e w2 ⟨rfl, hb2⟩
  have Hres2 := hiD (hres.out.next hb2)
  obtain ⟨z0, z1, z2, z3, z4, z5, z6, z7, z8, ⟨l0, l1, l2, l3, l4, l5, l6, l7, l8⟩, ⟨f0, f1, f2, f3, f4, f5, f6, f7, f8⟩⟩ := Hres2.out.slots
  have hfin : Hid (∀ W, W = ((((((((((w2).setCell ⟨w.heap.size + 1 + 1, 0, none⟩ (.string ⟨#[]⟩)).setCell ⟨w.heap.size + 1 + 1, 1, none⟩ (.string ⟨#[]⟩)).setCell ⟨w.heap.size + 1 + 1, 2, none⟩ (.int .i64 0)).setCell ⟨w.heap.size + 1 + 1, 3, none⟩ (.int .i64 0)).setCell ⟨w.heap.size + 1 + 1, 4, none⟩ (.int .i64 0)).setCell ⟨w.heap.size + 1 + 1, 5, none⟩ (.int .i64 0)).setCell ⟨w.heap.size + 1 + 1, 6, none⟩ (.int .i64 0)).setCell ⟨w.heap.size + 1 + 1, 7, none⟩ (.int .i64 0)).setCell ⟨w.heap.size + 1 + 1, 8, none⟩ (.int .i64 0)) → UnitPost (zeroU, 4) w (.returned (.tuple #[.agg #[.string ⟨#[]⟩, .string ⟨#[]⟩, .int .i64 0, .int .i64 0, .int .i64 0, .int .i64 0, .int .i64 0, .int .i64 0, .int .i64 0], .int .i64 4])) W) := hiD (by
    rintro W rfl
    exact ⟨_, _, _, _, _, _, _, _, _, rfl, rfl, hb0.out.trans ((Hres2.out.put9 (by simp <;> omega) (.string ⟨#[]⟩) (.string ⟨#[]⟩) (.int .i64 0) (.int .i64 0) (.int .i64 0) (.int .i64 0) (.int .i64 0) (.int .i64 0) (.int .i64 0)).mono hb0.out.size)⟩)
  clear hb2
  go_wp2_with fail
  have hcells := Hres2.out.put9_heap (.string ⟨#[]⟩) (.string ⟨#[]⟩) (.int .i64 0) (.int .i64 0) (.int .i64 0) (.int .i64 0) (.int .i64 0) (.int .i64 0) (.int .i64 0)
  generalize (((((((((w2).setCell ⟨w.heap.size + 1 + 1, 0, none⟩ (.string ⟨#[]⟩)).setCell ⟨w.heap.size + 1 + 1, 1, none⟩ (.string ⟨#[]⟩)).setCell ⟨w.heap.size + 1 + 1, 2, none⟩ (.int .i64 0)).setCell ⟨w.heap.size + 1 + 1, 3, none⟩ (.int .i64 0)).setCell ⟨w.heap.size + 1 + 1, 4, none⟩ (.int .i64 0)).setCell ⟨w.heap.size + 1 + 1, 5, none⟩ (.int .i64 0)).setCell ⟨w.heap.size + 1 + 1, 6, none⟩ (.int .i64 0)).setCell ⟨w.heap.size + 1 + 1, 7, none⟩ (.int .i64 0)).setCell ⟨w.heap.size + 1 + 1, 8, none⟩ (.int .i64 0) = WW at hcells hfin ⊢
  have c0 := ceh hcells 0
  have c1 := ceh hcells 1
  have c2 := ceh hcells 2
  have c3 := ceh hcells 3
  have c4 := ceh hcells 4
  have c5 := ceh hcells 5
  have c6 := ceh hcells 6
  have c7 := ceh hcells 7
  have c8 := ceh hcells 8
  refine bodyPost_ret (v := .tuple #[.agg #[.string ⟨#[]⟩, .string ⟨#[]⟩, .int .i64 0, .int .i64 0, .int .i64 0, .int .i64 0, .int .i64 0, .int .i64 0, .int .i64 0], .int .i64 4]) (by simp [results, Tryz.results100, go_sem, c0, c1, c2, c3, c4, c5, c6, c7, c8]) rfl ?_
  exact hfin.out _ rfl
theorem plain_far (x : Value) (p0 p1 p2 p3 p4 p5 p6 : Int) (q : Rat) (K : Nat) (l : List UInt8) (w : World) (hK : K ≤ 1000000) (htab : Tab w) (hx : RatIs w x q K) (hl : txt q = l) (hne : ¬ l = []) (hr : inR [p0, p1, p2, p3, p4, p5, p6] = false) : Calls Tryz.prog 100 #[x, .agg #[.int .i64 p0, .int .i64 p1, .int .i64 p2, .int .i64 p3, .int .i64 p4, .int .i64 p5, .int .i64 p6]] w (UnitPost (zeroU, 4) w) := by
  have ht : Hid (∀ W, Below w.heap.size w W → Calls Tryz.prog 64 #[x] W fun e w' => e = .returned (.string ⟨l.toArray⟩) ∧ Below W.heap.size W w') := hiD fun W hb => by
    have := qtext_is x q K W hK (hx.below hb) (htab.below hb)
    rwa [hl] at this
  have hin : Hid (∀ W, Calls Tryz.prog 145 #[.agg #[.int .i64 p0, .int .i64 p1, .int .i64 p2, .int .i64 p3, .int .i64 p4, .int .i64 p5, .int .i64 p6]] W fun e w' => e = .returned (.bool false) ∧ Below W.heap.size W w') := hiD fun W => by
    rw [← hr]; exact inRange_any p0 p1 p2 p3 p4 p5 p6 W
  obtain ⟨bs, q1, n1, k1, q2, n2, k2, rfl⟩ := hx.agg
  have hb0 := hiD ((bea w (.cells #[.bool bs, .slice q1 n1 k1, .slice q2 n2 k2] 66)).trans ((bea (w.alloc (.cells #[.bool bs, .slice q1 n1 k1, .slice q2 n2 k2] 66)) (.cells #[.int .i64 p0, .int .i64 p1, .int .i64 p2, .int .i64 p3, .int .i64 p4, .int .i64 p5, .int .i64 p6] 51)).mono (bea w (.cells #[.bool bs, .slice q1 n1 k1, .slice q2 n2 k2] 66)).size))
  have hres : Hid (ResU (w.heap.size + 1 + 1) ((w.alloc (.cells #[.bool bs, .slice q1 n1 k1, .slice q2 n2 k2] 66)).alloc (.cells #[.int .i64 p0, .int .i64 p1, .int .i64 p2, .int .i64 p3, .int .i64 p4, .int .i64 p5, .int .i64 p6] 51)) (((w.alloc (.cells #[.bool bs, .slice q1 n1 k1, .slice q2 n2 k2] 66)).alloc (.cells #[.int .i64 p0, .int .i64 p1, .int .i64 p2, .int .i64 p3, .int .i64 p4, .int .i64 p5, .int .i64 p6] 51)).alloc (.cells #[.string ⟨#[]⟩, .string ⟨#[]⟩, .int .i64 0, .int .i64 0, .int .i64 0, .int .i64 0, .int .i64 0, .int .i64 0, .int .i64 0] 53))) := hiD (by
    have := ResU.start ((w.alloc (.cells #[.bool bs, .slice q1 n1 k1, .slice q2 n2 k2] 66)).alloc (.cells #[.int .i64 p0, .int .i64 p1, .int .i64 p2, .int .i64 p3, .int .i64 p4, .int .i64 p5, .int .i64 p6] 51))
    rwa [show ((w.alloc (.cells #[.bool bs, .slice q1 n1 k1, .slice q2 n2 k2] 66)).alloc (.cells #[.int .i64 p0, .int .i64 p1, .int .i64 p2, .int .i64 p3, .int .i64 p4, .int .i64 p5, .int .i64 p6] 51)).heap.size = w.heap.size + 1 + 1 from by simp] at this)
  have hbx : Hid ((((w.alloc (.cells #[.bool bs, .slice q1 n1 k1, .slice q2 n2 k2] 66)).alloc (.cells #[.int .i64 p0, .int .i64 p1, .int .i64 p2, .int .i64 p3, .int .i64 p4, .int .i64 p5, .int .i64 p6] 51)).alloc (.cells #[.string ⟨#[]⟩, .string ⟨#[]⟩, .int .i64 0, .int .i64 0, .int .i64 0, .int .i64 0, .int .i64 0, .int .i64 0, .int .i64 0] 53)).heap[w.heap.size + 1]? = some (.cells #[.int .i64 p0, .int .i64 p1, .int .i64 p2, .int .i64 p3, .int .i64 p4, .int .i64 p5, .int .i64 p6] 51)) := hiD (by
    rw [heap_old _ _ _ (by simp), show w.heap.size + 1 = (w.alloc (.cells #[.bool bs, .slice q1 n1 k1, .slice q2 n2 k2] 66)).heap.size from by simp, heap_new])
  have h1 := ht.out _ (hb0.out.trans (hres.out.below.mono hb0.out.size))
  clear hx htab hl ht hr
  go_enter Tryz.func100, Tryz.ntmps100
  go_wp2_with fail
  refine h1.mono ?_
  rintro e w2 ⟨rfl, hb2⟩
  have hx2 := (hb2.block (w.heap.size + 1) (by simp)).trans hbx.out
  have e0 := ceh hx2 0
  have e1 := ceh hx2 1
  have e2 := ceh hx2 2
  have e3 := ceh hx2 3
  have e4 := ceh hx2 4
  have e5 := ceh hx2 5
  have e6 := ceh hx2 6
  have Hres1 := hiD (hres.out.next hb2)
  clear hb2 hx2
  go_wp2_with fail
  refine (hin.out _).mono ?_
  rintro e w3 ⟨rfl, hb3⟩
  have Hres2 := hiD (Hres1.out.next hb3)
  obtain ⟨z0, z1, z2, z3, z4, z5, z6, z7, z8, ⟨l0, l1, l2, l3, l4, l5, l6, l7, l8⟩, ⟨f0, f1, f2, f3, f4, f5, f6, f7, f8⟩⟩ := Hres2.out.slots
  have hfin : Hid (∀ W, W = ((((((((((w3).setCell ⟨w.heap.size + 1 + 1, 0, none⟩ (.string ⟨#[]⟩)).setCell ⟨w.heap.size + 1 + 1, 1, none⟩ (.string ⟨#[]⟩)).setCell ⟨w.heap.size + 1 + 1, 2, none⟩ (.int .i64 0)).setCell ⟨w.heap.size + 1 + 1, 3, none⟩ (.int .i64 0)).setCell ⟨w.heap.size + 1 + 1, 4, none⟩ (.int .i64 0)).setCell ⟨w.heap.size + 1 + 1, 5, none⟩ (.int .i64 0)).setCell ⟨w.heap.size + 1 + 1, 6, none⟩ (.int .i64 0)).setCell ⟨w.heap.size + 1 + 1, 7, none⟩ (.int .i64 0)).setCell ⟨w.heap.size + 1 + 1, 8, none⟩ (.int .i64 0)) → UnitPost (zeroU, 4) w (.returned (.tuple #[.agg #[.string ⟨#[]⟩, .string ⟨#[]⟩, .int .i64 0, .int .i64 0, .int .i64 0, .int .i64 0, .int .i64 0, .int .i64 0, .int .i64 0], .int .i64 4])) W) := hiD (by
    rintro W rfl
    exact ⟨_, _, _, _, _, _, _, _, _, rfl, rfl, hb0.out.trans ((Hres2.out.put9 (by simp <;> omega) (.string ⟨#[]⟩) (.string ⟨#[]⟩) (.int .i64 0) (.int .i64 0) (.int .i64 0) (.int .i64 0) (.int .i64 0) (.int .i64 0) (.int .i64 0)).mono hb0.out.size)⟩)
  clear hb3
  go_wp2_with fail
  have hcells := Hres2.out.put9_heap (.string ⟨#[]⟩) (.string ⟨#[]⟩) (.int .i64 0) (.int .i64 0) (.int .i64 0) (.int .i64 0) (.int .i64 0) (.int .i64 0) (.int .i64 0)
  generalize (((((((((w3).setCell ⟨w.heap.size + 1 + 1, 0, none⟩ (.string ⟨#[]⟩)).setCell ⟨w.heap.size + 1 + 1, 1, none⟩ (.string ⟨#[]⟩)).setCell ⟨w.heap.size + 1 + 1, 2, none⟩ (.int .i64 0)).setCell ⟨w.heap.size + 1 + 1, 3, none⟩ (.int .i64 0)).setCell ⟨w.heap.size + 1 + 1, 4, none⟩ (.int .i64 0)).setCell ⟨w.heap.size + 1 + 1, 5, none⟩ (.int .i64 0)).setCell ⟨w.heap.size + 1 + 1, 6, none⟩ (.int .i64 0)).setCell ⟨w.heap.size + 1 + 1, 7, none⟩ (.int .i64 0)).setCell ⟨w.heap.size + 1 + 1, 8, none⟩ (.int .i64 0) = WW at hcells hfin ⊢
  have c0 := ceh hcells 0
  have c1 := ceh hcells 1
  have c2 := ceh hcells 2
  have c3 := ceh hcells 3
  have c4 := ceh hcells 4
  have c5 := ceh hcells 5
  have c6 := ceh hcells 6
  have c7 := ceh hcells 7
  have c8 := ceh hcells 8
  refine bodyPost_ret (v := .tuple #[.agg #[.string ⟨#[]⟩, .string ⟨#[]⟩, .int .i64 0, .int .i64 0, .int .i64 0, .int .i64 0, .int .i64 0, .int .i64 0, .int .i64 0], .int .i64 4]) (by simp [results, Tryz.results100, go_sem, c0, c1, c2, c3, c4, c5, c6, c7, c8]) rfl ?_
  exact hfin.out _ rfl
theorem plain_ok (x : Value) (p0 p1 p2 p3 p4 p5 p6 : Int) (q : Rat) (K : Nat) (l : List UInt8) (w : World) (hK : K ≤ 1000000) (htab : Tab w) (hx : RatIs w x q K) (hl : txt q = l) (_hne : ¬ l = []) (hne2 : l.isEmpty = false) (hr : inR [p0, p1, p2, p3, p4, p5, p6] = true) : Calls Tryz.prog 100 #[x, .agg #[.int .i64 p0, .int .i64 p1, .int .i64 p2, .int .i64 p3, .int .i64 p4, .int .i64 p5, .int .i64 p6]] w (UnitPost (⟨l, [48], [p0, p1, p2, p3, p4, p5, p6]⟩, 0) w) := by
  have ht : Hid (∀ W, Below w.heap.size w W → Calls Tryz.prog 64 #[x] W fun e w' => e = .returned (.string ⟨l.toArray⟩) ∧ Below W.heap.size W w') := hiD fun W hb => by
    have := qtext_is x q K W hK (hx.below hb) (htab.below hb)
    rwa [hl] at this
  have hin : Hid (∀ W, Calls Tryz.prog 145 #[.agg #[.int .i64 p0, .int .i64 p1, .int .i64 p2, .int .i64 p3, .int .i64 p4, .int .i64 p5, .int .i64 p6]] W fun e w' => e = .returned (.bool true) ∧ Below W.heap.size W w') := hiD fun W => by
    rw [← hr]; exact inRange_any p0 p1 p2 p3 p4 p5 p6 W
  obtain ⟨bs, q1, n1, k1, q2, n2, k2, rfl⟩ := hx.agg
  have hb0 := hiD ((bea w (.cells #[.bool bs, .slice q1 n1 k1, .slice q2 n2 k2] 66)).trans ((bea (w.alloc (.cells #[.bool bs, .slice q1 n1 k1, .slice q2 n2 k2] 66)) (.cells #[.int .i64 p0, .int .i64 p1, .int .i64 p2, .int .i64 p3, .int .i64 p4, .int .i64 p5, .int .i64 p6] 51)).mono (bea w (.cells #[.bool bs, .slice q1 n1 k1, .slice q2 n2 k2] 66)).size))
  have hres : Hid (ResU (w.heap.size + 1 + 1) ((w.alloc (.cells #[.bool bs, .slice q1 n1 k1, .slice q2 n2 k2] 66)).alloc (.cells #[.int .i64 p0, .int .i64 p1, .int .i64 p2, .int .i64 p3, .int .i64 p4, .int .i64 p5, .int .i64 p6] 51)) (((w.alloc (.cells #[.bool bs, .slice q1 n1 k1, .slice q2 n2 k2] 66)).alloc (.cells #[.int .i64 p0, .int .i64 p1, .int .i64 p2, .int .i64 p3, .int .i64 p4, .int .i64 p5, .int .i64 p6] 51)).alloc (.cells #[.string ⟨#[]⟩, .string ⟨#[]⟩, .int .i64 0, .int .i64 0, .int .i64 0, .int .i64 0, .int .i64 0, .int .i64 0, .int .i64 0] 53))) := hiD (by
    have := ResU.start ((w.alloc (.cells #[.bool bs, .slice q1 n1 k1, .slice q2 n2 k2] 66)).alloc (.cells #[.int .i64 p0, .int .i64 p1, .int .i64 p2, .int .i64 p3, .int .i64 p4, .int .i64 p5, .int .i64 p6] 51))
    rwa [show ((w.alloc (.cells #[.bool bs, .slice q1 n1 k1, .slice q2 n2 k2] 66)).alloc (.cells #[.int .i64 p0, .int .i64 p1, .int .i64 p2, .int .i64 p3, .int .i64 p4, .int .i64 p5, .int .i64 p6] 51)).heap.size = w.heap.size + 1 + 1 from by simp] at this)
  have hbx : Hid ((((w.alloc (.cells #[.bool bs, .slice q1 n1 k1, .slice q2 n2 k2] 66)).alloc (.cells #[.int .i64 p0, .int .i64 p1, .int .i64 p2, .int .i64 p3, .int .i64 p4, .int .i64 p5, .int .i64 p6] 51)).alloc (.cells #[.string ⟨#[]⟩, .string ⟨#[]⟩, .int .i64 0, .int .i64 0, .int .i64 0, .int .i64 0, .int .i64 0, .int .i64 0, .int .i64 0] 53)).heap[w.heap.size + 1]? = some (.cells #[.int .i64 p0, .int .i64 p1, .int .i64 p2, .int .i64 p3, .int .i64 p4, .int .i64 p5, .int .i64 p6] 51)) := hiD (by
    rw [heap_old _ _ _ (by simp), show w.heap.size + 1 = (w.alloc (.cells #[.bool bs, .slice q1 n1 k1, .slice q2 n2 k2] 66)).heap.size from by simp, heap_new])
  have h1 := ht.out _ (hb0.out.trans (hres.out.below.mono hb0.out.size))
  clear hx htab hl ht hr
  go_enter Tryz.func100, Tryz.ntmps100
  go_wp2_with fail
  refine h1.mono ?_
  rintro e w2 ⟨rfl, hb2⟩
  have hx2 := hiD ((hb2.block (w.heap.size + 1) (by simp)).trans hbx.out)
  have e0 := ceh hx2.out 0
  have e1 := ceh hx2.out 1
  have e2 := ceh hx2.out 2
  have e3 := ceh hx2.out 3
  have e4 := ceh hx2.out 4
  have e5 := ceh hx2.out 5
  have e6 := ceh hx2.out 6
  have Hres1 := hiD (hres.out.next hb2)
  clear hb2
  go_wp2_with fail
  refine (hin.out _).mono ?_
  rintro e w3 ⟨rfl, hb3⟩
  have Hres2 := hiD (Hres1.out.next hb3)
  have hx3 := (hb3.block (w.heap.size + 1) (by have := (Array.getElem?_eq_some_iff.1 hx2.out).1; exact this)).trans hx2.out
  have d0 := ceh hx3 0
  have d1 := ceh hx3 1
  have d2 := ceh hx3 2
  have d3 := ceh hx3 3
  have d4 := ceh hx3 4
  have d5 := ceh hx3 5
  have d6 := ceh hx3 6
  obtain ⟨z0, z1, z2, z3, z4, z5, z6, z7, z8, ⟨l0, l1, l2, l3, l4, l5, l6, l7, l8⟩, ⟨f0, f1, f2, f3, f4, f5, f6, f7, f8⟩⟩ := Hres2.out.slots
  have hfin : Hid (∀ W, W = ((((((((((w3).setCell ⟨w.heap.size + 1 + 1, 0, none⟩ (.string ⟨l.toArray⟩)).setCell ⟨w.heap.size + 1 + 1, 1, none⟩ (.string ⟨#[48]⟩)).setCell ⟨w.heap.size + 1 + 1, 2, none⟩ (.int .i64 p0)).setCell ⟨w.heap.size + 1 + 1, 3, none⟩ (.int .i64 p1)).setCell ⟨w.heap.size + 1 + 1, 4, none⟩ (.int .i64 p2)).setCell ⟨w.heap.size + 1 + 1, 5, none⟩ (.int .i64 p3)).setCell ⟨w.heap.size + 1 + 1, 6, none⟩ (.int .i64 p4)).setCell ⟨w.heap.size + 1 + 1, 7, none⟩ (.int .i64 p5)).setCell ⟨w.heap.size + 1 + 1, 8, none⟩ (.int .i64 p6)) → UnitPost (⟨l, [48], [p0, p1, p2, p3, p4, p5, p6]⟩, 0) w (.returned (.tuple #[.agg #[.string ⟨l.toArray⟩, .string ⟨#[48]⟩, .int .i64 p0, .int .i64 p1, .int .i64 p2, .int .i64 p3, .int .i64 p4, .int .i64 p5, .int .i64 p6], .int .i64 0])) W) := hiD (by
    rintro W rfl
    exact ⟨_, _, _, _, _, _, _, _, _, rfl, rfl, hb0.out.trans ((Hres2.out.put9 (by simp <;> omega) (.string ⟨l.toArray⟩) (.string ⟨#[48]⟩) (.int .i64 p0) (.int .i64 p1) (.int .i64 p2) (.int .i64 p3) (.int .i64 p4) (.int .i64 p5) (.int .i64 p6)).mono hb0.out.size)⟩)
  clear hb3 hx3 e0 e1 e2 e3 e4 e5 e6
  go_wp2_with fail
  have hcells := Hres2.out.put9_heap (.string ⟨l.toArray⟩) (.string ⟨#[48]⟩) (.int .i64 p0) (.int .i64 p1) (.int .i64 p2) (.int .i64 p3) (.int .i64 p4) (.int .i64 p5) (.int .i64 p6)
  generalize (((((((((w3).setCell ⟨w.heap.size + 1 + 1, 0, none⟩ (.string ⟨l.toArray⟩)).setCell ⟨w.heap.size + 1 + 1, 1, none⟩ (.string ⟨#[48]⟩)).setCell ⟨w.heap.size + 1 + 1, 2, none⟩ (.int .i64 p0)).setCell ⟨w.heap.size + 1 + 1, 3, none⟩ (.int .i64 p1)).setCell ⟨w.heap.size + 1 + 1, 4, none⟩ (.int .i64 p2)).setCell ⟨w.heap.size + 1 + 1, 5, none⟩ (.int .i64 p3)).setCell ⟨w.heap.size + 1 + 1, 6, none⟩ (.int .i64 p4)).setCell ⟨w.heap.size + 1 + 1, 7, none⟩ (.int .i64 p5)).setCell ⟨w.heap.size + 1 + 1, 8, none⟩ (.int .i64 p6) = WW at hcells hfin ⊢
  have c0 := ceh hcells 0
  have c1 := ceh hcells 1
  have c2 := ceh hcells 2
  have c3 := ceh hcells 3
  have c4 := ceh hcells 4
  have c5 := ceh hcells 5
  have c6 := ceh hcells 6
  have c7 := ceh hcells 7
  have c8 := ceh hcells 8
  refine bodyPost_ret (v := .tuple #[.agg #[.string ⟨l.toArray⟩, .string ⟨#[48]⟩, .int .i64 p0, .int .i64 p1, .int .i64 p2, .int .i64 p3, .int .i64 p4, .int .i64 p5, .int .i64 p6], .int .i64 0]) (by simp [results, Tryz.results100, go_sem, c0, c1, c2, c3, c4, c5, c6, c7, c8]) rfl ?_
  exact hfin.out _ rfl
theorem plain_is (x : Value) (p0 p1 p2 p3 p4 p5 p6 : Int) (q : Rat) (K : Nat) (w : World) (hK : K ≤ 1000000) (htab : Tab w) (hx : RatIs w x q K) : Calls Tryz.prog 100 #[x, .agg #[.int .i64 p0, .int .i64 p1, .int .i64 p2, .int .i64 p3, .int .i64 p4, .int .i64 p5, .int .i64 p6]] w (UnitPost (mkT q [p0, p1, p2, p3, p4, p5, p6]) w) := by
  unfold mkT
  by_cases hl : txt q = []
  · rw [if_pos (.inl hl)]
    exact plain_long x p0 p1 p2 p3 p4 p5 p6 q K w hK htab hx hl
  · cases hr : inR [p0, p1, p2, p3, p4, p5, p6] with
    | false =>
      rw [if_pos (.inr rfl)]
      exact plain_far x p0 p1 p2 p3 p4 p5 p6 q K _ w hK htab hx rfl hl hr
    | true =>
      rw [if_neg (by rintro (h | h); exact hl h; cases h)]
      exact plain_ok x p0 p1 p2 p3 p4 p5 p6 q K _ w hK htab hx rfl hl (by simpa using hl) hr
end Go.Proofs.YtoegbjmoecbjdaaGreatDoor
