/- Fractions with a sign, and the rational numbers that they stand for. -/
import Derived.Test.YtoegbjmoecbjdaaGreatDoorPart04
import Derived.Deep.LoopGhost
import Derived.Deep.RegionHeld3
import Derived.Deep.RegionWith
import Derived.Test.YtoegbjmoecbjdaaGreatDoorPart01
set_option maxHeartbeats 3200000
set_option maxRecDepth 100000
namespace Go.Proofs.YtoegbjmoecbjdaaGreatDoor
open Go.RowKit Big
theorem canon_len {l : List Nat} (h : Canon B64 l) (k : Nat) : l.length ≤ k ↔ val B64 l < B64 ^ k := by
  constructor
  · intro h1
    have h2 := val_lt l h.1
    have h3 : B64 ^ l.length ≤ B64 ^ k := Nat.pow_le_pow_right B64_pos h1
    omega
  · intro h1; exact limbs_le h rfl h1
def LowPost (a b lim : Nat) (w : World) (e : Ending) (w' : World) : Prop :=
  Below w.heap.size w w' ∧
  ((a / Nat.gcd a b < B64 ^ lim ∧ b / Nat.gcd a b < B64 ^ lim ∧ ∃ v u, e = .returned (.tuple #[v, u, .bool true]) ∧ NatAt w' v (a / Nat.gcd a b) ∧ NatAt w' u (b / Nat.gcd a b)) ∨
   (¬ (a / Nat.gcd a b < B64 ^ lim ∧ b / Nat.gcd a b < B64 ^ lim) ∧ e = .returned (.tuple #[.slice none 0 0, .slice none 0 0, .bool false])))
structure Frac (a b lim K X Y T LT U LU : Nat) : Prop where
  top : a = T * X + LT * Y
  bot : b = U * X + LU * Y
  gcd : Nat.gcd X Y = Nat.gcd a b
  hX : X < B64 ^ K
  hY : Y < B64 ^ K
  hT : T < B64 ^ lim
  hLT : LT < B64 ^ lim
  hU : U < B64 ^ lim
  hLU : LU < B64 ^ lim
theorem Frac.start {a b lim K : Nat} (ha : a < B64 ^ K) (hb : b < B64 ^ K) (hl : 1 ≤ lim) : Frac a b lim K a b 1 0 0 1 := by
  have h1 : 1 < B64 ^ lim := by
    have : B64 ^ 1 ≤ B64 ^ lim := Nat.pow_le_pow_right B64_pos hl
    rw [Nat.pow_one, B64_eq] at this; rw [B64_eq]; omega
  exact ⟨by omega, by omega, rfl, ha, hb, h1, by omega, by omega, h1⟩
theorem Frac.done {a b lim K X T LT U LU : Nat} (h : Frac a b lim K X 0 T LT U LU) (hb : 0 < b) : a / Nat.gcd a b = T ∧ b / Nat.gcd a b = U := by
  have hg := h.gcd
  rw [Nat.gcd_zero_right] at hg
  have h1 := h.top
  have h2 := h.bot
  rw [Nat.mul_zero, Nat.add_zero] at h1 h2
  rw [← hg]
  have hX : 0 < X := by
    apply Nat.pos_of_ne_zero; rintro rfl; omega
  exact ⟨by rw [h1, Nat.mul_div_cancel _ hX], by rw [h2, Nat.mul_div_cancel _ hX]⟩
theorem Frac.step {a b lim K X Y T LT U LU : Nat} (h : Frac a b lim K X Y T LT U LU) : a = (X / Y * T + LT) * Y + T * (X % Y) ∧ b = (X / Y * U + LU) * Y + U * (X % Y) ∧ Nat.gcd Y (X % Y) = Nat.gcd a b := by
  have hx : X = X / Y * Y + X % Y := (Nat.div_add_mod' X Y).symm
  refine ⟨frac_step h.top hx, frac_step h.bot hx, ?_⟩
  rw [← h.gcd, Nat.gcd_comm X Y, Nat.gcd_rec Y X, Nat.gcd_comm]
theorem Frac.next {a b lim K X Y T LT U LU : Nat} (h : Frac a b lim K X Y T LT U LU) (hY : 0 < Y) (h1 : X / Y * T + LT < B64 ^ lim) (h2 : X / Y * U + LU < B64 ^ lim) : Frac a b lim K Y (X % Y) (X / Y * T + LT) T (X / Y * U + LU) U := by
  obtain ⟨s1, s2, s3⟩ := h.step
  have := Nat.mod_lt X hY
  have := h.hY
  exact ⟨s1, s2, s3, h.hY, by omega, h1, h.hT, h2, h.hU⟩
theorem Frac.long {a b lim K X Y T LT U LU : Nat} (h : Frac a b lim K X Y T LT U LU) (hY : 0 < Y) (hn : ¬ (X / Y * T + LT < B64 ^ lim ∧ X / Y * U + LU < B64 ^ lim)) : ¬ (a / Nat.gcd a b < B64 ^ lim ∧ b / Nat.gcd a b < B64 ^ lim) := by
  obtain ⟨s1, s2, s3⟩ := h.step
  have hgY : Nat.gcd a b ≤ Y := by rw [← s3]; exact Nat.gcd_le_left _ hY
  have hgp : 0 < Nat.gcd a b := by rw [← s3]; exact Nat.gcd_pos_of_pos_left _ hY
  have key : ∀ c V R : Nat, c = V * Y + R → V ≤ c / Nat.gcd a b := by
    intro c V R hc
    rw [Nat.le_div_iff_mul_le hgp]
    have : V * Nat.gcd a b ≤ V * Y := Nat.mul_le_mul_left _ hgY
    omega
  have k1 := key a _ _ s1
  have k2 := key b _ _ s2
  intro hc; apply hn; omega
theorem NatAt.len {w : World} {p : Option Addr} {n c x : Nat} (h : NatAt w (.slice p n c) x) (k : Nat) : n ≤ k ↔ x < B64 ^ k := by
  obtain ⟨p', n', c', l, h1, h2, h3, h4, h5⟩ := h
  cases h1
  rw [← h5, ← h3.len]; exact canon_len h4 k
theorem NatAt.slice {w : World} {v : Value} {x : Nat} (h : NatAt w v x) : ∃ p n c, v = .slice p n c := by
  obtain ⟨p, n, c, l, h1, _⟩ := h; exact ⟨p, n, c, h1⟩
theorem bound_mul_add {q t l K lim : Nat} (hq : q < B64 ^ K) (ht : t < B64 ^ lim) (hl : l < B64 ^ lim) : q * t < B64 ^ (K + lim) ∧ l < B64 ^ (K + lim) := by
  rw [Nat.pow_add]
  have hK : 0 < B64 ^ K := Nat.pow_pos B64_pos
  constructor
  · exact Nat.mul_lt_mul'' hq ht
  · have : 1 * B64 ^ lim ≤ B64 ^ K * B64 ^ lim := Nat.mul_le_mul_right _ hK
    omega
theorem natAt_box (w : World) (d : Nat) (t : TypeId) (h0 : 0 < d) (hd : d < B64) : NatAt (w.alloc (.cells #[.int .u64 (d : Int)] t)) (.slice (some ⟨w.heap.size, 0, none⟩) 1 1) d :=
  ⟨_, 1, 1, [d], rfl, Nat.le_refl _, rd_box w d t, ⟨Dig.one hd, by simp; omega⟩, by simp [val]⟩
theorem lowest_loop (u v : Value) (a b lim K : Nat) (w : World) (hK : K + lim ≤ 1073741824) (hlim : 1 ≤ lim) (ha : a < B64 ^ K) (hb : b < B64 ^ K) (hb0 : 0 < b) (hu : NatAt w u a) (hv : NatAt w v b)
    (hne : ∀ p n c q m d, u = .slice p n c → v = .slice q m d → ¬ (n = 1 ∧ m = 1)) : Calls Tryz.prog 157 #[u, v, .int .i64 lim] w (LowPost a b lim w) := by
  obtain ⟨p, n, c, rfl⟩ := hu.slice
  obtain ⟨q, m, d, rfl⟩ := hv.slice
  have hn1 := hne p n c q m d rfl rfl
  have HK := hiD hK
  clear hne hK
  have hfork : ((n : Int) == 1) = false ∨ (((n : Int) == 1) = true ∧ ((m : Int) == 1) = false) := by
    by_cases h : n = 1
    · subst h; exact .inr ⟨rfl, by rw [beq_eq_false_iff_ne]; omega⟩
    · exact .inl (by rw [beq_eq_false_iff_ne]; omega)
  clear hn1
  have hst : Hid (∃ X T LT U LU : Nat, NatAt ((w.alloc (Obj.cells #[Value.int IntKind.u64 1] 76)).alloc (Obj.cells #[Value.int IntKind.u64 1] 76)) (.slice p n c) X ∧ NatAt ((w.alloc (Obj.cells #[Value.int IntKind.u64 1] 76)).alloc (Obj.cells #[Value.int IntKind.u64 1] 76)) (.slice q m d) b ∧
      NatAt ((w.alloc (Obj.cells #[Value.int IntKind.u64 1] 76)).alloc (Obj.cells #[Value.int IntKind.u64 1] 76)) (.slice (some ⟨w.heap.size, 0, none⟩) 1 1) T ∧ NatAt ((w.alloc (Obj.cells #[Value.int IntKind.u64 1] 76)).alloc (Obj.cells #[Value.int IntKind.u64 1] 76)) (.slice none 0 0) LT ∧
      NatAt ((w.alloc (Obj.cells #[Value.int IntKind.u64 1] 76)).alloc (Obj.cells #[Value.int IntKind.u64 1] 76)) (.slice none 0 0) U ∧ NatAt ((w.alloc (Obj.cells #[Value.int IntKind.u64 1] 76)).alloc (Obj.cells #[Value.int IntKind.u64 1] 76)) (.slice (some ⟨w.heap.size + 1, 0, none⟩) 1 1) LU ∧
      Hid (Frac a b lim K X b T LT U LU) ∧ Below w.heap.size w ((w.alloc (Obj.cells #[Value.int IntKind.u64 1] 76)).alloc (Obj.cells #[Value.int IntKind.u64 1] 76))) := hiD (by
    have hb1 : Below w.heap.size w (w.alloc (Obj.cells #[Value.int IntKind.u64 1] 76)) := (Below.refl _ _).alloc (Nat.le_refl _) _
    have hb2 : Below (w.alloc (Obj.cells #[Value.int IntKind.u64 1] 76)).heap.size (w.alloc (Obj.cells #[Value.int IntKind.u64 1] 76)) ((w.alloc (Obj.cells #[Value.int IntKind.u64 1] 76)).alloc (Obj.cells #[Value.int IntKind.u64 1] 76)) := (Below.refl _ _).alloc (Nat.le_refl _) _
    have h12 := hb1.trans (hb2.mono (by simp))
    have hB1 : 1 < B64 := by rw [B64_eq]; omega
    have n1 := natAt_box w 1 76 (by omega) hB1
    have n2 := natAt_box (w.alloc (Obj.cells #[Value.int IntKind.u64 1] 76)) 1 76 (by omega) hB1
    rw [World.size_alloc] at n2
    exact ⟨a, 1, 0, 0, 1, hu.below h12, hv.below h12, n1.below hb2, NatAt.zero _, NatAt.zero _, n2, hiD (Frac.start ha hb hlim), h12⟩)
  clear hu hv ha hb
  go_enter Tryz.func157, Tryz.ntmps157
  rcases hfork with e1 | ⟨e1, e2⟩
  · go_wp2_with fail
    go_loopg [0, 1, 10, 11, 12, 13] b (fun k xv yv tv ltv uv luv wr => ∃ X T LT U LU : Nat, NatAt wr xv X ∧ NatAt wr yv k ∧ NatAt wr tv T ∧ NatAt wr ltv LT ∧ NatAt wr uv U ∧ NatAt wr luv LU ∧ Hid (Frac a b lim K X k T LT U LU) ∧ Below w.heap.size w wr)
    case atStart => exact hst.out
    case round =>
      obtain ⟨X, T, LT, U, LU, hX, hY, hT, hLT, hU, hLU, hF, hB⟩ := hrel
      obtain ⟨px, nx, cx, rfl⟩ := hX.slice
      obtain ⟨py, ny, cy, rfl⟩ := hY.slice
      have HX := hiD hX
      have HY := hiD hY
      have HT := hiD hT
      have HLT := hiD hLT
      have HU := hiD hU
      have HLU := hiD hLU
      clear hX hY hT hLT hU hLU
      by_cases h0 : gk = 0
      · subst h0
        have hny : ny = 0 := by
          have := (HY.out.len 0).2 (by simp); omega
        subst hny
        have hfin : Hid (∀ tv uv, NatAt wr tv T → NatAt wr uv U → LowPost a b lim w (.returned (.tuple #[tv, uv, .bool true])) wr) := hiD (by
          intro tv uv h1 h2
          obtain ⟨e1, e2⟩ := hF.out.done hb0
          refine ⟨hB, .inl ⟨by rw [e1]; exact hF.out.hT, by rw [e2]; exact hF.out.hU, tv, uv, rfl, by rw [e1]; exact h1, by rw [e2]; exact h2⟩⟩)
        go_wp2_with fail
        refine (isZero_any _ _ _ _).mono ?_
        rintro e w1 ⟨rfl, rfl⟩
        go_wp2_with fail
        go_ret3
        exact hfin.out _ _ HT.out HU.out
      · have hny : ny ≠ 0 := by
          intro h; apply h0
          have := (HY.out.len 0).1 (by omega); simp at this; exact this
        have hnz : ((ny : Int) == 0) = false := by rw [beq_eq_false_iff_ne]; omega
        clear hny
        go_wp2_with fail
        refine (isZero_any _ _ _ _).mono ?_
        rintro e w1 ⟨rfl, rfl⟩
        rw [hnz]
        go_wp2_with fail
        have hdv : Hid (Calls Tryz.prog 135 #[.slice px nx cx, .slice py ny cy] wr (QuoPost X gk wr)) := hiD (divided_nat _ _ X gk K wr (by have := HK.out; unfold most; omega) hF.out.hX hF.out.hY (by omega) HX.out HY.out)
        refine hdv.out.mono ?_
        rintro e w2 ⟨vq, vr, rfl, hvq, hvr, hb2⟩
        have hq : Hid (X / gk < B64 ^ K) := hiD (Nat.lt_of_le_of_lt (Nat.div_le_self _ _) hF.out.hX)
        obtain ⟨Q, hQ⟩ : ∃ Q, Hid (Q = X / gk) := ⟨_, hiD rfl⟩
        obtain ⟨R, hR⟩ : ∃ R, Hid (R = X % gk) := ⟨_, hiD rfl⟩
        rw [← hQ.out] at hvq hq
        rw [← hR.out] at hvr
        have hm1 : Hid (Calls Tryz.prog 128 #[vq, u10] w2 (NatPost (Q * T) w2)) := hiD (times_nat _ _ Q T (K + lim) w2 (by have := HK.out; omega)
          (by have := (bound_mul_add hq.out hF.out.hT hF.out.hT).2; have h2 : B64 ^ K ≤ B64 ^ (K + lim) := Nat.pow_le_pow_right B64_pos (by omega); have := hq.out; omega)
          (bound_mul_add hq.out hF.out.hT hF.out.hT).2 hvq (HT.out.below hb2))
        go_wp2_with fail
        refine hm1.out.mono ?_
        rintro e w3 ⟨v3, rfl, hv3, hb3⟩
        have hm2 : Hid (Calls Tryz.prog 130 #[v3, u11] w3 (NatPost (Q * T + LT) w3)) := hiD (plus_nat _ _ _ LT (K + lim) w3 (by have := HK.out; unfold most; omega)
          (bound_mul_add hq.out hF.out.hT hF.out.hLT).1 (bound_mul_add hq.out hF.out.hT hF.out.hLT).2 hv3 ((HLT.out.below hb2).below hb3))
        go_wp2_with fail
        refine hm2.out.mono ?_
        rintro e w4 ⟨v4, rfl, hv4, hb4⟩
        have hb24 : Below w2.heap.size w2 w4 := hb3.trans (hb4.mono hb3.size)
        have hm3 : Hid (Calls Tryz.prog 128 #[vq, u12] w4 (NatPost (Q * U) w4)) := hiD (times_nat _ _ Q U (K + lim) w4 (by have := HK.out; omega)
          (by have := (bound_mul_add hq.out hF.out.hU hF.out.hU).2; have h2 : B64 ^ K ≤ B64 ^ (K + lim) := Nat.pow_le_pow_right B64_pos (by omega); have := hq.out; omega)
          (bound_mul_add hq.out hF.out.hU hF.out.hU).2 (hvq.below hb24) ((HU.out.below hb2).below hb24))
        go_wp2_with fail
        refine hm3.out.mono ?_
        rintro e w5 ⟨v5, rfl, hv5, hb5⟩
        have hb25 : Below w2.heap.size w2 w5 := hb24.trans (hb5.mono hb24.size)
        have hm4 : Hid (Calls Tryz.prog 130 #[v5, u13] w5 (NatPost (Q * U + LU) w5)) := hiD (plus_nat _ _ _ LU (K + lim) w5 (by have := HK.out; unfold most; omega)
          (bound_mul_add hq.out hF.out.hU hF.out.hLU).1 (bound_mul_add hq.out hF.out.hU hF.out.hLU).2 hv5 ((HLU.out.below hb2).below hb25))
        go_wp2_with fail
        refine hm4.out.mono ?_
        rintro e w6 ⟨v6, rfl, hv6, hb6⟩
        have hb26 : Below w2.heap.size w2 w6 := hb25.trans (hb6.mono hb25.size)
        have hb46 : Below w4.heap.size w4 w6 := hb5.trans (hb6.mono hb5.size)
        have hbw6 : Below w.heap.size w w6 := hB.trans ((hb2.trans (hb26.mono hb2.size)).mono hB.size)
        have hbr6 : Below wr.heap.size wr w6 := hb2.trans (hb26.mono hb2.size)
        obtain ⟨pt, nt, ct, rfl⟩ := hv4.slice
        obtain ⟨pu, nu, cu, rfl⟩ := hv6.slice
        have hlen1 : Hid (nt ≤ lim ↔ Q * T + LT < B64 ^ lim) := hiD (hv4.len lim)
        have hlen2 : Hid (nu ≤ lim ↔ Q * U + LU < B64 ^ lim) := hiD (hv6.len lim)
        have hNext : Hid (Q * T + LT < B64 ^ lim → Q * U + LU < B64 ^ lim → Frac a b lim K gk R (Q * T + LT) T (Q * U + LU) U) := hiD (by
          rw [hQ.out, hR.out]; exact fun h1 h2 => hF.out.next (by omega) h1 h2)
        have hLong : Hid (¬ (Q * T + LT < B64 ^ lim ∧ Q * U + LU < B64 ^ lim) → LowPost a b lim w (.returned (.tuple #[.slice none 0 0, .slice none 0 0, .bool false])) w6) := hiD (by
          rw [hQ.out]; exact fun h => ⟨hbw6, .inr ⟨hF.out.long (by omega) h, rfl⟩⟩)
        have hRlt : Hid (R < gk) := hiD (by rw [hR.out]; exact Nat.mod_lt _ (by omega))
        have H1 := hiD ((HY.out).below hbr6)
        have H2 := hiD (hvr.below hb26)
        have H3 := hiD (hv4.below hb46)
        have H4 := hiD (HT.out.below hbr6)
        have H5 := hiD hv6
        have H6 := hiD (HU.out.below hbr6)
        have hfk : (Hid (¬ nt ≤ lim) ∧ decide (lim < nt) = true) ∨ (Hid (nt ≤ lim) ∧ decide (lim < nt) = false ∧ ((Hid (¬ nu ≤ lim) ∧ decide (lim < nu) = true) ∨ (Hid (nu ≤ lim) ∧ decide (lim < nu) = false))) := by
          by_cases h1 : nt ≤ lim
          · refine .inr ⟨hiD h1, decide_eq_false (by omega), ?_⟩
            by_cases h2 : nu ≤ lim
            · exact .inr ⟨hiD h2, decide_eq_false (by omega)⟩
            · exact .inl ⟨hiD h2, decide_eq_true (by omega)⟩
          · exact .inl ⟨hiD h1, decide_eq_true (by omega)⟩
        clear hv3 hv4 hv5 hv6 hvq hvr hb2 hb3 hb4 hb5 hb6 hb24 hb25 hb26 hb46 hbr6 h0 hB
        rcases hfk with ⟨f1, f2⟩ | ⟨f1, f2, ⟨f3, f4⟩ | ⟨f3, f4⟩⟩
        · go_wp2_with fail
          go_ret3
          exact hLong.out (fun h => f1.out (hlen1.out.2 h.1))
        · go_wp2_with fail
          go_ret3
          exact hLong.out (fun h => f3.out (hlen2.out.2 h.2))
        · go_wp2_with fail
          go_roundg R
          case measure => exact hRlt.out
          case rel => exact ⟨gk, Q * T + LT, T, Q * U + LU, U, H1.out, H2.out, H3.out, H4.out, H5.out, H6.out, hiD (hNext.out (hlen1.out.1 f1.out) (hlen2.out.1 f3.out)), hbw6⟩
  · go_wp2_with fail
    go_loopg [0, 1, 10, 11, 12, 13] b (fun k xv yv tv ltv uv luv wr => ∃ X T LT U LU : Nat, NatAt wr xv X ∧ NatAt wr yv k ∧ NatAt wr tv T ∧ NatAt wr ltv LT ∧ NatAt wr uv U ∧ NatAt wr luv LU ∧ Hid (Frac a b lim K X k T LT U LU) ∧ Below w.heap.size w wr)
    case atStart => exact hst.out
    case round =>
      obtain ⟨X, T, LT, U, LU, hX, hY, hT, hLT, hU, hLU, hF, hB⟩ := hrel
      obtain ⟨px, nx, cx, rfl⟩ := hX.slice
      obtain ⟨py, ny, cy, rfl⟩ := hY.slice
      have HX := hiD hX
      have HY := hiD hY
      have HT := hiD hT
      have HLT := hiD hLT
      have HU := hiD hU
      have HLU := hiD hLU
      clear hX hY hT hLT hU hLU
      by_cases h0 : gk = 0
      · subst h0
        have hny : ny = 0 := by
          have := (HY.out.len 0).2 (by simp); omega
        subst hny
        have hfin : Hid (∀ tv uv, NatAt wr tv T → NatAt wr uv U → LowPost a b lim w (.returned (.tuple #[tv, uv, .bool true])) wr) := hiD (by
          intro tv uv h1 h2
          obtain ⟨e1, e2⟩ := hF.out.done hb0
          refine ⟨hB, .inl ⟨by rw [e1]; exact hF.out.hT, by rw [e2]; exact hF.out.hU, tv, uv, rfl, by rw [e1]; exact h1, by rw [e2]; exact h2⟩⟩)
        go_wp2_with fail
        refine (isZero_any _ _ _ _).mono ?_
        rintro e w1 ⟨rfl, rfl⟩
        go_wp2_with fail
        go_ret3
        exact hfin.out _ _ HT.out HU.out
      · have hny : ny ≠ 0 := by
          intro h; apply h0
          have := (HY.out.len 0).1 (by omega); simp at this; exact this
        have hnz : ((ny : Int) == 0) = false := by rw [beq_eq_false_iff_ne]; omega
        clear hny
        go_wp2_with fail
        refine (isZero_any _ _ _ _).mono ?_
        rintro e w1 ⟨rfl, rfl⟩
        rw [hnz]
        go_wp2_with fail
        have hdv : Hid (Calls Tryz.prog 135 #[.slice px nx cx, .slice py ny cy] wr (QuoPost X gk wr)) := hiD (divided_nat _ _ X gk K wr (by have := HK.out; unfold most; omega) hF.out.hX hF.out.hY (by omega) HX.out HY.out)
        refine hdv.out.mono ?_
        rintro e w2 ⟨vq, vr, rfl, hvq, hvr, hb2⟩
        have hq : Hid (X / gk < B64 ^ K) := hiD (Nat.lt_of_le_of_lt (Nat.div_le_self _ _) hF.out.hX)
        obtain ⟨Q, hQ⟩ : ∃ Q, Hid (Q = X / gk) := ⟨_, hiD rfl⟩
        obtain ⟨R, hR⟩ : ∃ R, Hid (R = X % gk) := ⟨_, hiD rfl⟩
        rw [← hQ.out] at hvq hq
        rw [← hR.out] at hvr
        have hm1 : Hid (Calls Tryz.prog 128 #[vq, u10] w2 (NatPost (Q * T) w2)) := hiD (times_nat _ _ Q T (K + lim) w2 (by have := HK.out; omega)
          (by have := (bound_mul_add hq.out hF.out.hT hF.out.hT).2; have h2 : B64 ^ K ≤ B64 ^ (K + lim) := Nat.pow_le_pow_right B64_pos (by omega); have := hq.out; omega)
          (bound_mul_add hq.out hF.out.hT hF.out.hT).2 hvq (HT.out.below hb2))
        go_wp2_with fail
        refine hm1.out.mono ?_
        rintro e w3 ⟨v3, rfl, hv3, hb3⟩
        have hm2 : Hid (Calls Tryz.prog 130 #[v3, u11] w3 (NatPost (Q * T + LT) w3)) := hiD (plus_nat _ _ _ LT (K + lim) w3 (by have := HK.out; unfold most; omega)
          (bound_mul_add hq.out hF.out.hT hF.out.hLT).1 (bound_mul_add hq.out hF.out.hT hF.out.hLT).2 hv3 ((HLT.out.below hb2).below hb3))
        go_wp2_with fail
        refine hm2.out.mono ?_
        rintro e w4 ⟨v4, rfl, hv4, hb4⟩
        have hb24 : Below w2.heap.size w2 w4 := hb3.trans (hb4.mono hb3.size)
        have hm3 : Hid (Calls Tryz.prog 128 #[vq, u12] w4 (NatPost (Q * U) w4)) := hiD (times_nat _ _ Q U (K + lim) w4 (by have := HK.out; omega)
          (by have := (bound_mul_add hq.out hF.out.hU hF.out.hU).2; have h2 : B64 ^ K ≤ B64 ^ (K + lim) := Nat.pow_le_pow_right B64_pos (by omega); have := hq.out; omega)
          (bound_mul_add hq.out hF.out.hU hF.out.hU).2 (hvq.below hb24) ((HU.out.below hb2).below hb24))
        go_wp2_with fail
        refine hm3.out.mono ?_
        rintro e w5 ⟨v5, rfl, hv5, hb5⟩
        have hb25 : Below w2.heap.size w2 w5 := hb24.trans (hb5.mono hb24.size)
        have hm4 : Hid (Calls Tryz.prog 130 #[v5, u13] w5 (NatPost (Q * U + LU) w5)) := hiD (plus_nat _ _ _ LU (K + lim) w5 (by have := HK.out; unfold most; omega)
          (bound_mul_add hq.out hF.out.hU hF.out.hLU).1 (bound_mul_add hq.out hF.out.hU hF.out.hLU).2 hv5 ((HLU.out.below hb2).below hb25))
        go_wp2_with fail
        refine hm4.out.mono ?_
        rintro e w6 ⟨v6, rfl, hv6, hb6⟩
        have hb26 : Below w2.heap.size w2 w6 := hb25.trans (hb6.mono hb25.size)
        have hb46 : Below w4.heap.size w4 w6 := hb5.trans (hb6.mono hb5.size)
        have hbw6 : Below w.heap.size w w6 := hB.trans ((hb2.trans (hb26.mono hb2.size)).mono hB.size)
        have hbr6 : Below wr.heap.size wr w6 := hb2.trans (hb26.mono hb2.size)
        obtain ⟨pt, nt, ct, rfl⟩ := hv4.slice
        obtain ⟨pu, nu, cu, rfl⟩ := hv6.slice
        have hlen1 : Hid (nt ≤ lim ↔ Q * T + LT < B64 ^ lim) := hiD (hv4.len lim)
        have hlen2 : Hid (nu ≤ lim ↔ Q * U + LU < B64 ^ lim) := hiD (hv6.len lim)
        have hNext : Hid (Q * T + LT < B64 ^ lim → Q * U + LU < B64 ^ lim → Frac a b lim K gk R (Q * T + LT) T (Q * U + LU) U) := hiD (by
          rw [hQ.out, hR.out]; exact fun h1 h2 => hF.out.next (by omega) h1 h2)
        have hLong : Hid (¬ (Q * T + LT < B64 ^ lim ∧ Q * U + LU < B64 ^ lim) → LowPost a b lim w (.returned (.tuple #[.slice none 0 0, .slice none 0 0, .bool false])) w6) := hiD (by
          rw [hQ.out]; exact fun h => ⟨hbw6, .inr ⟨hF.out.long (by omega) h, rfl⟩⟩)
        have hRlt : Hid (R < gk) := hiD (by rw [hR.out]; exact Nat.mod_lt _ (by omega))
        have H1 := hiD ((HY.out).below hbr6)
        have H2 := hiD (hvr.below hb26)
        have H3 := hiD (hv4.below hb46)
        have H4 := hiD (HT.out.below hbr6)
        have H5 := hiD hv6
        have H6 := hiD (HU.out.below hbr6)
        have hfk : (Hid (¬ nt ≤ lim) ∧ decide (lim < nt) = true) ∨ (Hid (nt ≤ lim) ∧ decide (lim < nt) = false ∧ ((Hid (¬ nu ≤ lim) ∧ decide (lim < nu) = true) ∨ (Hid (nu ≤ lim) ∧ decide (lim < nu) = false))) := by
          by_cases h1 : nt ≤ lim
          · refine .inr ⟨hiD h1, decide_eq_false (by omega), ?_⟩
            by_cases h2 : nu ≤ lim
            · exact .inr ⟨hiD h2, decide_eq_false (by omega)⟩
            · exact .inl ⟨hiD h2, decide_eq_true (by omega)⟩
          · exact .inl ⟨hiD h1, decide_eq_true (by omega)⟩
        clear hv3 hv4 hv5 hv6 hvq hvr hb2 hb3 hb4 hb5 hb6 hb24 hb25 hb26 hb46 hbr6 h0 hB
        rcases hfk with ⟨f1, f2⟩ | ⟨f1, f2, ⟨f3, f4⟩ | ⟨f3, f4⟩⟩
        · go_wp2_with fail
          go_ret3
          exact hLong.out (fun h => f1.out (hlen1.out.2 h.1))
        · go_wp2_with fail
          go_ret3
          exact hLong.out (fun h => f3.out (hlen2.out.2 h.2))
        · go_wp2_with fail
          go_roundg R
          case measure => exact hRlt.out
          case rel => exact ⟨gk, Q * T + LT, T, Q * U + LU, U, H1.out, H2.out, H3.out, H4.out, H5.out, H6.out, hiD (hNext.out (hlen1.out.1 f1.out) (hlen2.out.1 f3.out)), hbw6⟩
theorem lowest_short (p q : Option Addr) (c d a b lim : Nat) (w : World) (hlim : 1 ≤ lim) (hu : NatAt w (.slice p 1 c) a) (hv : NatAt w (.slice q 1 d) b) : Calls Tryz.prog 157 #[.slice p 1 c, .slice q 1 d, .int .i64 lim] w (LowPost a b lim w) := by
  obtain ⟨p', n', c', x, h1, h2, h3, h4, h5⟩ := hu
  obtain ⟨q', m', d', y, g1, g2, g3, g4, g5⟩ := hv
  cases h1
  cases g1
  obtain ⟨bx, ox, a', rfl, hbx, hcx, hax⟩ := h3.at (k := 0) (by omega)
  obtain ⟨by', oy, b', rfl, hby, hcy, hay⟩ := g3.at (k := 0) (by omega)
  obtain ⟨a0, hx⟩ := one_limb h3.len
  obtain ⟨b0, hy⟩ := one_limb g3.len
  subst hx hy
  have ea : a0 = a' := hax.out
  have eb : b0 = b' := hay.out
  subst ea eb
  have ea : a0 = a := by rw [← h5]; simp [val]
  have eb : b0 = b := by rw [← g5]; simp [val]
  subst ea eb
  have ha0 : 0 < a0 := by have := h4.2; simp at this; omega
  have hb0 : 0 < b0 := by have := g4.2; simp at this; omega
  have haB : a0 < B64 := h4.1 _ (by simp)
  have hbB : b0 < B64 := g4.1 _ (by simp)
  have hgcd := fun W => commonDivisor_any a0 b0 W
  have hg0 : 0 < Nat.gcd a0 b0 := Nat.gcd_pos_of_pos_left _ ha0
  obtain ⟨g, hg⟩ : ∃ g, Hid (g = Nat.gcd a0 b0) := ⟨_, hiD rfl⟩
  have hgg : ∀ W, Calls Tryz.prog 185 #[.int .u64 a0, .int .u64 b0] W fun e w' => e = .returned (.int .u64 ((g : Nat) : Int)) ∧ ∃ k, W.drewN k = w' := fun W => by rw [hg.out]; exact commonDivisor_any a0 b0 W
  rw [← hg.out] at hg0
  have Hgg := hiD hgg
  obtain ⟨qa, hqa⟩ : ∃ qa, Hid (qa = a0 / g) := ⟨_, hiD rfl⟩
  obtain ⟨qb, hqb⟩ : ∃ qb, Hid (qb = b0 / g) := ⟨_, hiD rfl⟩
  have ea : (a0 : Int) / g = (qa : Int) := by rw [hqa.out]; exact (Int.natCast_ediv _ _).symm
  have eb : (b0 : Int) / g = (qb : Int) := by rw [hqb.out]; exact (Int.natCast_ediv _ _).symm
  have wa : IntKind.u64.wrap (qa : Int) = qa := wrap_in _ (by rw [hqa.out]; have := Nat.div_le_self a0 g; omega)
  have wb : IntKind.u64.wrap (qb : Int) = qb := wrap_in _ (by rw [hqb.out]; have := Nat.div_le_self b0 g; omega)
  have hx0 : ∀ k, (w.drewN k).cell? ⟨bx, ox, none⟩ = some (.int .u64 (a0 : Int)) := fun k => hcx
  have hy0 : ∀ k, (w.drewN k).cell? ⟨by', oy, none⟩ = some (.int .u64 (b0 : Int)) := fun k => hcy
  have hx1 : ∀ k o, ((w.drewN k).alloc o).cell? ⟨bx, ox, none⟩ = some (.int .u64 (a0 : Int)) := fun k o => (((Below.refl _ (w.drewN k)).alloc (Nat.le_refl _) o).cell (p := ⟨bx, ox, none⟩) hbx).trans hcx
  have hy1 : ∀ k o, ((w.drewN k).alloc o).cell? ⟨by', oy, none⟩ = some (.int .u64 (b0 : Int)) := fun k o => (((Below.refl _ (w.drewN k)).alloc (Nat.le_refl _) o).cell (p := ⟨by', oy, none⟩) hby).trans hcy
  have hgne : ¬ g = 0 := by omega
  have i1 : (1 : Int) ≤ g := by omega
  have i2 : (0 : Int) ≤ a0 := by omega
  have i3 : (0 : Int) ≤ b0 := by omega
  have hqapos : 0 < qa := by rw [hqa.out, hg.out]; exact Nat.div_pos (Nat.gcd_le_left _ ha0) (by rw [← hg.out]; exact hg0)
  have hqbpos : 0 < qb := by rw [hqb.out, hg.out]; exact Nat.div_pos (Nat.gcd_le_right _ hb0) (by rw [← hg.out]; exact hg0)
  have hqaB : qa < B64 := by rw [hqa.out]; have := Nat.div_le_self a0 g; omega
  have hqbB : qb < B64 := by rw [hqb.out]; have := Nat.div_le_self b0 g; omega
  have hpow : B64 ≤ B64 ^ lim := by
    have := Nat.pow_le_pow_right B64_pos hlim
    rwa [Nat.pow_one] at this
  have hf : ∀ v u w', Below w.heap.size w w' → NatAt w' v qa → NatAt w' u qb → LowPost a0 b0 lim w (.returned (.tuple #[v, u, .bool true])) w' := by
    intro v u w' k1 k2 k3
    have e1 : a0 / Nat.gcd a0 b0 = qa := by rw [hqa.out, hg.out]
    have e2 : b0 / Nat.gcd a0 b0 = qb := by rw [hqb.out, hg.out]
    exact ⟨k1, .inl ⟨by rw [e1]; omega, by rw [e2]; omega, v, u, rfl, by rw [e1]; exact k2, by rw [e2]; exact k3⟩⟩
  have hbb : ∀ k (o1 o2 : Obj), Below w.heap.size w (((w.drewN k).alloc o1).alloc o2) := fun k o1 o2 =>
    ((below_drewN w.heap.size w k).alloc (Nat.le_refl _) o1).alloc (by simp) o2
  have hab : ∀ (W : World) (o : Obj), Below W.heap.size W (W.alloc o) := fun W o => (Below.refl _ _).alloc (Nat.le_refl _) o
  have hfin1 : Hid (∀ k, LowPost a0 b0 lim w (.returned (.tuple #[.slice (some ⟨w.heap.size, 0, none⟩) 1 1, .slice (some ⟨w.heap.size + 1, 0, none⟩) 1 1, .bool true])) (((w.drewN k).alloc (.cells #[.int .u64 (qa : Int)] 76)).alloc (.cells #[.int .u64 (qb : Int)] 76))) := hiD (by
    intro k
    have n1 := natAt_box (w.drewN k) qa 76 hqapos hqaB
    have n2 := natAt_box ((w.drewN k).alloc (.cells #[.int .u64 (qa : Int)] 76)) qb 76 hqbpos hqbB
    rw [World.size_alloc] at n2
    exact hf _ _ _ (hbb _ _ _) (n1.below (hab _ _)) n2)
  have hfin2 : Hid (∀ k, LowPost a0 b0 lim w (.returned (.tuple #[.slice (some ⟨w.heap.size + 1, 0, none⟩) 1 1, .slice (some ⟨w.heap.size, 0, none⟩) 1 1, .bool true])) (((w.drewN k).alloc (.cells #[.int .u64 (qb : Int)] 76)).alloc (.cells #[.int .u64 (qa : Int)] 76))) := hiD (by
    intro k
    have n1 := natAt_box (w.drewN k) qb 76 hqbpos hqbB
    have n2 := natAt_box ((w.drewN k).alloc (.cells #[.int .u64 (qb : Int)] 76)) qa 76 hqapos hqaB
    rw [World.size_alloc] at n2
    exact hf _ _ _ (hbb _ _ _) n2 (n1.below (hab _ _)))
  clear hqapos hqbpos hqaB hqbB hpow hf hbb hab
  clear hgcd hgg h2 g2 h3 g3 h4 g4 h5 g5 hax hay haB hbB ha0 hb0 hg0
  go_enter Tryz.func157, Tryz.ntmps157
  go_wp2_with fail
  go_quiet ((go_at_call 185; exact Calls.quiet_of ((Hgg.out _).mono fun _ _ h => ⟨h.1, h.2.elim fun k hk => ⟨k, hk.symm⟩⟩)))
  go_wp2_with fail
  go_region
  · go_wp2_with fail
    go_ret3
    exact hfin1.out _
  · go_wp2_with fail
    go_ret3
    exact hfin2.out _
theorem lowest_nat (u v : Value) (a b lim K : Nat) (w : World) (hK : K + lim ≤ 1073741824) (hlim : 1 ≤ lim) (ha : a < B64 ^ K) (hb : b < B64 ^ K) (hb0 : 0 < b) (hu : NatAt w u a) (hv : NatAt w v b) : Calls Tryz.prog 157 #[u, v, .int .i64 lim] w (LowPost a b lim w) := by
  obtain ⟨p, n, c, rfl⟩ := hu.slice
  obtain ⟨q, m, d, rfl⟩ := hv.slice
  by_cases h : n = 1 ∧ m = 1
  · obtain ⟨rfl, rfl⟩ := h
    exact lowest_short p q c d a b lim w hlim hu hv
  · refine lowest_loop _ _ a b lim K w hK hlim ha hb hb0 hu hv ?_
    intro p' n' c' q' m' d' h1 h2 h3
    cases h1; cases h2; exact h h3
def SignedPost (s : Bool) (n : Nat) (u v : Value) (w : World) (e : Ending) (w' : World) : Prop :=
  e = .returned (.agg #[.bool (s && !((n : Int) == 0)), u, v]) ∧ Below w.heap.size w w'
theorem signed_any (s : Bool) (p q : Option Addr) (n c m d : Nat) (w : World) :
    Calls Tryz.prog 129 #[.bool s, .slice p n c, .slice q m d] w (SignedPost s n (.slice p n c) (.slice q m d) w) := by
  cases s with
  | false =>
    go_enter Tryz.func129, Tryz.ntmps129
    go_wp2_with fail
    refine bodyPost_ret (v := .agg #[.bool false, .slice p n c, .slice q m d]) (by simp [results, Tryz.results129, go_sem]) rfl ?_
    exact ⟨rfl, (Below.refl _ _).alloc (Nat.le_refl _) _⟩
  | true =>
    go_enter Tryz.func129, Tryz.ntmps129
    go_wp2_with fail
    refine (isZero_any _ _ _ _).mono ?_
    rintro e w1 ⟨rfl, rfl⟩
    go_wp2_with fail
    refine bodyPost_ret (v := .agg #[.bool (!((n : Int) == 0)), .slice p n c, .slice q m d]) (by simp [results, Tryz.results129, go_sem]) rfl ?_
    exact ⟨rfl, (Below.refl _ _).alloc (Nat.le_refl _) _⟩
def RatAt (w : World) (x : Value) (s : Bool) (a b : Nat) : Prop := ∃ u v, x = .agg #[.bool s, u, v] ∧ NatAt w u a ∧ NatAt w v b ∧ (s = true → 0 < a)
theorem RatAt.below {w w' : World} {x : Value} {s : Bool} {a b : Nat} (h : RatAt w x s a b) (hb : Below w.heap.size w w') : RatAt w' x s a b := by
  obtain ⟨u, v, h1, h2, h3, h4⟩ := h
  exact ⟨u, v, h1, h2.below hb, h3.below hb, h4⟩
theorem natAt_zero_iff {w : World} {p : Option Addr} {n c x : Nat} (h : NatAt w (.slice p n c) x) : n = 0 ↔ x = 0 := by
  have := h.len 0
  rw [Nat.pow_zero] at this
  omega
theorem signed_nat (s : Bool) (u v : Value) (a b : Nat) (w : World) (hu : NatAt w u a) (hv : NatAt w v b) :
    Calls Tryz.prog 129 #[.bool s, u, v] w fun e w' => e = .returned (.agg #[.bool (s && !(a == 0)), u, v]) ∧ Below w.heap.size w w' := by
  obtain ⟨p, n, c, rfl⟩ := hu.slice
  obtain ⟨q, m, d, rfl⟩ := hv.slice
  refine (signed_any s p q n c m d w).mono ?_
  rintro e w' ⟨rfl, hb⟩
  refine ⟨?_, hb⟩
  have := natAt_zero_iff hu
  have e : (((n : Int) == 0) : Bool) = (a == 0) := by
    rw [Bool.eq_iff_iff, beq_iff_eq, beq_iff_eq]; omega
  rw [e]
def RatPost (s : Bool) (a b : Nat) (w : World) (e : Ending) (w' : World) : Prop := ∃ x, e = .returned x ∧ RatAt w' x (s && !(a == 0)) a b ∧ Below w.heap.size w w'
def NoInt (v : Value) : Prop := ∀ k n, v ≠ .int k n
theorem noInt_bool (b : Bool) : NoInt (.bool b) := fun _ _ h => by cases h
theorem noInt_slice (p : Option Addr) (n c : Nat) : NoInt (.slice p n c) := fun _ _ h => by cases h
structure Two (B : Nat) (s : Bool) (u1 v1 : Value) (t : Bool) (u2 v2 : Value) (w0 W : World) : Prop where
  size : B + 3 ≤ W.heap.size
  below : Below w0.heap.size w0 W
  x : W.heap[B]? = some (.cells #[.bool s, u1, v1] 66 (0, 0))
  y : W.heap[B + 1]? = some (.cells #[.bool t, u2, v2] 66 (0, 0))
  z : ∃ z0 z1 z2, W.heap[B + 1 + 1]? = some (.cells #[z0, z1, z2] 66 (0, 0)) ∧ NoInt z0 ∧ NoInt z1 ∧ NoInt z2
variable {B : Nat} {s : Bool} {u1 v1 : Value} {t : Bool} {u2 v2 : Value} {w0 W W' : World}
theorem Two.next (h : Two B s u1 v1 t u2 v2 w0 W) (hb : Below W.heap.size W W') : Two B s u1 v1 t u2 v2 w0 W' := by
  have hs := h.size
  exact ⟨Nat.le_trans hs hb.size, h.below.trans (hb.mono h.below.size), (hb.block _ (by omega)).trans h.x, (hb.block _ (by omega)).trans h.y, h.z.elim fun z0 k => k.elim fun z1 k => k.elim fun z2 k => ⟨z0, z1, z2, (hb.block _ (by omega)).trans k.1, k.2⟩⟩
theorem Two.drew (h : Two B s u1 v1 t u2 v2 w0 W) : Two B s u1 v1 t u2 v2 w0 W.drew := ⟨h.size, h.below.drew, h.x, h.y, h.z⟩
theorem heap_new (W : World) (o : Obj) : (W.alloc o).heap[W.heap.size]? = some o := by show (W.heap.push _)[_]? = _; simp
theorem heap_old (W : World) (o : Obj) (b : Nat) (h : b < W.heap.size) : (W.alloc o).heap[b]? = W.heap[b]? := Below.heap_alloc _ _ _ h
theorem Two.start (w : World) (s : Bool) (u1 v1 : Value) (t : Bool) (u2 v2 : Value) :
    Two w.heap.size s u1 v1 t u2 v2 w (((w.alloc (.cells #[.bool s, u1, v1] 66)).alloc (.cells #[.bool t, u2, v2] 66)).alloc (.cells #[.bool false, .slice none 0 0, .slice none 0 0] 66)) := by
  have hb : ∀ (W : World) (o : Obj), Below W.heap.size W (W.alloc o) := fun W o => (Below.refl _ _).alloc (Nat.le_refl _) o
  refine ⟨by simp, ((hb _ _).trans ((hb _ _).mono (by simp))).trans ((hb _ _).mono (by simp; omega)), ?_, ?_, ⟨.bool false, .slice none 0 0, .slice none 0 0, ?_, noInt_bool _, noInt_slice _ _ _, noInt_slice _ _ _⟩⟩
  · rw [heap_old _ _ _ (by simp; omega), heap_old _ _ _ (by simp), heap_new]
  · rw [heap_old _ _ _ (by simp), show w.heap.size + 1 = (w.alloc (.cells #[.bool s, u1, v1] 66)).heap.size from by simp, heap_new]
  · rw [show w.heap.size + 1 + 1 = ((w.alloc (.cells #[.bool s, u1, v1] 66)).alloc (.cells #[.bool t, u2, v2] 66)).heap.size from by simp, heap_new]
theorem ceh {b : Nat} {c : Array Value} {T : TypeId} (h : W.heap[b]? = some (.cells c T (0, 0))) (i : Nat) : W.cell? ⟨b, i, none⟩ = c[i]? := by
  unfold World.cell?; rw [h]; rfl
theorem foh {b : Nat} {c : Array Value} {T : TypeId} (h : W.heap[b]? = some (.cells c T (0, 0))) (i : Nat) : W.frozen? ⟨b, i, none⟩ = false := by
  unfold World.frozen?; rw [h]; simp
theorem Two.all (h : Two B s u1 v1 t u2 v2 w0 W) : Two B s u1 v1 t u2 v2 w0 W ∧ W.cell? ⟨B, 0, none⟩ = some (.bool s) ∧ W.cell? ⟨B, 1, none⟩ = some u1 ∧ W.cell? ⟨B, 2, none⟩ = some v1 ∧
    W.cell? ⟨B + 1, 0, none⟩ = some (.bool t) ∧ W.cell? ⟨B + 1, 1, none⟩ = some u2 ∧ W.cell? ⟨B + 1, 2, none⟩ = some v2 :=
  ⟨h, ceh h.x 0, ceh h.x 1, ceh h.x 2, ceh h.y 0, ceh h.y 1, ceh h.y 2⟩
theorem Two.slots (h : Two B s u1 v1 t u2 v2 w0 W) : ∃ z0 z1 z2, W.cell? ⟨B + 1 + 1, 0, none⟩ = some z0 ∧ W.cell? ⟨B + 1 + 1, 1, none⟩ = some z1 ∧ W.cell? ⟨B + 1 + 1, 2, none⟩ = some z2 ∧
    W.frozen? ⟨B + 1 + 1, 0, none⟩ = false ∧ W.frozen? ⟨B + 1 + 1, 1, none⟩ = false ∧ W.frozen? ⟨B + 1 + 1, 2, none⟩ = false := by
  obtain ⟨z0, z1, z2, hz, -⟩ := h.z
  exact ⟨z0, z1, z2, ceh hz 0, ceh hz 1, ceh hz 2, foh hz 0, foh hz 1, foh hz 2⟩
theorem heap_set (g k : Nat) (c : Array Value) (T : TypeId) (v : Value) (h : W.heap[g]? = some (.cells c T (0, 0))) : (W.setCell ⟨g, k, none⟩ v).heap[g]? = some (.cells (c.setIfInBounds k v) T (0, 0)) := by
  have hlt := (Array.getElem?_eq_some_iff.1 h).1
  have hv := (Array.getElem?_eq_some_iff.1 h).2
  unfold World.setCell
  rw [Array.getElem?_eq_getElem (by simpa using hlt), Array.getElem_modify]
  simp [hv]
theorem Two.put1 (h : Two B s u1 v1 t u2 v2 w0 W) (hB : w0.heap.size ≤ B) (k : Nat) (hk : k < 3) (a : Value) (ha : NoInt a) : Two B s u1 v1 t u2 v2 w0 (W.setCell ⟨B + 1 + 1, k, none⟩ a) := by
  obtain ⟨z0, z1, z2, hz, n0, n1, n2⟩ := h.z
  refine ⟨by rw [World.size_setCell]; exact h.size, h.below.setCell (by simp; omega) _, (Below.heap_setCell _ _ _ _ (by simp; omega)).trans h.x, (Below.heap_setCell _ _ _ _ (by simp)).trans h.y, ?_⟩
  have h1 := heap_set (B + 1 + 1) k _ 66 a hz
  match k, hk with
  | 0, _ => exact ⟨_, _, _, h1, ha, n1, n2⟩
  | 1, _ => exact ⟨_, _, _, h1, n0, ha, n2⟩
  | 2, _ => exact ⟨_, _, _, h1, n0, n1, ha⟩
theorem Two.put3 (h : Two B s u1 v1 t u2 v2 w0 W) (hB : w0.heap.size ≤ B) (a : Bool) (p q : Option Addr) (n c m d : Nat) : Two B s u1 v1 t u2 v2 w0 (((W.setCell ⟨B + 1 + 1, 0, none⟩ (.bool a)).setCell ⟨B + 1 + 1, 1, none⟩ (.slice p n c)).setCell ⟨B + 1 + 1, 2, none⟩ (.slice q m d)) :=
  ((h.put1 hB 0 (by omega) _ (noInt_bool _)).put1 hB 1 (by omega) _ (noInt_slice _ _ _)).put1 hB 2 (by omega) _ (noInt_slice _ _ _)
theorem Two.rd (h : Two B s u1 v1 t u2 v2 w0 W) {p : Option Addr} {n : Nat} {l : List Nat} (hr : Rd W p n l) (k : Nat) (a : Value) : Rd (W.setCell ⟨B + 1 + 1, k, none⟩ a) p n l := by
  refine ⟨hr.len, ?_⟩
  rcases hr.cell with h0 | ⟨b, off, hp, hlt, hc⟩
  · exact .inl h0
  · by_cases hn : n = 0
    · exact .inl hn
    refine .inr ⟨b, off, hp, by rw [World.size_setCell]; exact hlt, fun j hj => ?_⟩
    have hne : b ≠ B + 1 + 1 := by
      rintro rfl
      obtain ⟨z0, z1, z2, hz, n0, n1, n2⟩ := h.z
      have h1 := hc 0 (by omega)
      rw [ceh hz] at h1
      match hoff : off + 0, h1 with
      | 0, h1 => simp at h1; exact n0 _ _ h1
      | 1, h1 => simp at h1; exact n1 _ _ h1
      | 2, h1 => simp at h1; exact n2 _ _ h1
      | k + 3, h1 => simp at h1
    rw [← hc j hj]
    exact World.cell?_of_block (w := W) (Below.heap_setCell _ _ _ _ hne)
theorem Two.nat1 (h : Two B s u1 v1 t u2 v2 w0 W) {v : Value} {x : Nat} (hx : NatAt W v x) (k : Nat) (a : Value) : NatAt (W.setCell ⟨B + 1 + 1, k, none⟩ a) v x := by
  obtain ⟨p, n, c, l, h1, h2, h3, h4⟩ := hx
  exact ⟨p, n, c, l, h1, h2, h.rd h3 k a, h4⟩
theorem Two.nat3 (h : Two B s u1 v1 t u2 v2 w0 W) (hB : w0.heap.size ≤ B) {v : Value} {x : Nat} (hx : NatAt W v x) (a : Bool) (p q : Option Addr) (n c m d : Nat) : NatAt (((W.setCell ⟨B + 1 + 1, 0, none⟩ (.bool a)).setCell ⟨B + 1 + 1, 1, none⟩ (.slice p n c)).setCell ⟨B + 1 + 1, 2, none⟩ (.slice q m d)) v x :=
  ((h.put1 hB 0 (by omega) _ (noInt_bool _)).put1 hB 1 (by omega) _ (noInt_slice _ _ _)).nat1 ((h.put1 hB 0 (by omega) _ (noInt_bool _)).nat1 (h.nat1 hx _ _) _ _) _ _
theorem quo_any (x y : Value) (s t : Bool) (a b c d K : Nat) (w : World) (hK : K ≤ 1073741824) (ha : a < B64 ^ K) (hb : b < B64 ^ K) (hc : c < B64 ^ K) (hd : d < B64 ^ K) (hx : RatAt w x s a b) (hy : RatAt w y t c d) :
    Calls Tryz.prog 82 #[x, y] w (RatPost (s != t) (a * d) (b * c) w) := by
  obtain ⟨u1, v1, rfl, hu1, hv1, hs1⟩ := hx
  obtain ⟨u2, v2, rfl, hu2, hv2, hs2⟩ := hy
  have hm1 : Hid (∀ W, Below w.heap.size w W → Calls Tryz.prog 128 #[u1, v2] W (NatPost (a * d) W)) := hiD fun W h => times_nat _ _ _ _ K W (by omega) ha hd (hu1.below h) (hv2.below h)
  have hm2 : Hid (∀ W, Below w.heap.size w W → Calls Tryz.prog 128 #[v1, u2] W (NatPost (b * c) W)) := hiD fun W h => times_nat _ _ _ _ K W (by omega) hb hc (hv1.below h) (hu2.below h)
  have htwo := Two.start w s u1 v1 t u2 v2
  have Htwo := hiD htwo
  obtain ⟨-, c0, c1, c2, c3, c4, c5⟩ := htwo.all
  clear htwo
  clear hu1 hv1 hu2 hv2 hs1 hs2
  go_enter Tryz.func82, Tryz.ntmps82
  go_wp2_with fail
  go_region_held3 (fun w' => Two w.heap.size s u1 v1 t u2 v2 w w' ∧ w'.cell? ⟨w.heap.size, 0, none⟩ = some (.bool s) ∧ w'.cell? ⟨w.heap.size, 1, none⟩ = some u1 ∧ w'.cell? ⟨w.heap.size, 2, none⟩ = some v1 ∧
      w'.cell? ⟨w.heap.size + 1, 0, none⟩ = some (.bool t) ∧ w'.cell? ⟨w.heap.size + 1, 1, none⟩ = some u2 ∧ w'.cell? ⟨w.heap.size + 1, 2, none⟩ = some v2)
    (first | exact Two.all (Two.drew Htwo.out) | exact Two.all Htwo.out | (go_split_ands; exact Two.all (Two.next (by assumption) hb1)) | (go_split_ands; exact Two.all (Two.next (by assumption) hb2)) | (go_split_ands; exact Two.all (Two.next (by assumption) hb3)) | (go_split_ands; exact Two.all (Two.put3 (by assumption) (Nat.le_refl _) _ _ _ _ _ _ _)) | go_keep)
    (first | (go_at_call_of 128 u1; go_split_ands; refine (hm1.out _ (Two.below (by assumption))).mono ?_; rintro e w1 ⟨vt, rfl, hvt, hb1⟩; obtain ⟨pt, nt, ct, rfl⟩ := hvt.slice) | (go_at_call_of 128 v1; go_split_ands; refine (hm2.out _ (Two.below (by assumption))).mono ?_; rintro e w2 ⟨vb, rfl, hvb, hb2⟩; obtain ⟨pb, nb, cb, rfl⟩ := hvb.slice) | (go_at_call 129; go_split_ands; refine (signed_nat _ _ _ _ _ _ (NatAt.below (by assumption) (by assumption)) (by assumption)).mono ?_; rintro e w3 ⟨rfl, hb3⟩; have htw := Two.next (by assumption) hb3; obtain ⟨z0, z1, z2, k0, k1, k2, f0, f1, f2⟩ := Two.slots htw))
  go_wp2_with fail
  have q1 := htw.nat3 (Nat.le_refl _) ((hvt.below hb2).below hb3) ((s != t) && !(a * d == 0)) pt pb nt ct nb cb
  have q2 := htw.nat3 (Nat.le_refl _) (hvb.below hb3) ((s != t) && !(a * d == 0)) pt pb nt ct nb cb
  have q3 := (htw.put3 (Nat.le_refl _) ((s != t) && !(a * d == 0)) pt pb nt ct nb cb).below
  have hfin : Hid (∀ W, W = (((w3.setCell ⟨w.heap.size + 1 + 1, 0, none⟩ (.bool ((s != t) && !(a * d == 0)))).setCell ⟨w.heap.size + 1 + 1, 1, none⟩ (.slice pt nt ct)).setCell ⟨w.heap.size + 1 + 1, 2, none⟩ (.slice pb nb cb)) → RatPost (s != t) (a * d) (b * c) w (.returned (.agg #[.bool ((s != t) && !(a * d == 0)), .slice pt nt ct, .slice pb nb cb])) W) := hiD (by
    rintro W rfl
    exact ⟨_, rfl, ⟨_, _, rfl, q1, q2, by intro h; simp at h; omega⟩, q3⟩)
  refine bodyPost_ret (v := .agg #[.bool (!(s == t) && !(a * d == 0)), .slice pt nt ct, .slice pb nb cb]) (by simp [results, Tryz.results82, go_sem, k0, k1, k2]) rfl ?_
  exact hfin.out _ rfl
theorem mul_any (x y : Value) (s t : Bool) (a b c d K : Nat) (w : World) (hK : K ≤ 1073741824) (ha : a < B64 ^ K) (hb : b < B64 ^ K) (hc : c < B64 ^ K) (hd : d < B64 ^ K) (hx : RatAt w x s a b) (hy : RatAt w y t c d) :
    Calls Tryz.prog 81 #[x, y] w (RatPost (s != t) (a * c) (b * d) w) := by
  obtain ⟨u1, v1, rfl, hu1, hv1, hs1⟩ := hx
  obtain ⟨u2, v2, rfl, hu2, hv2, hs2⟩ := hy
  have hm1 : Hid (∀ W, Below w.heap.size w W → Calls Tryz.prog 128 #[u1, u2] W (NatPost (a * c) W)) := hiD fun W h => times_nat _ _ _ _ K W (by omega) ha hc (hu1.below h) (hu2.below h)
  have hm2 : Hid (∀ W, Below w.heap.size w W → Calls Tryz.prog 128 #[v1, v2] W (NatPost (b * d) W)) := hiD fun W h => times_nat _ _ _ _ K W (by omega) hb hd (hv1.below h) (hv2.below h)
  have htwo := Two.start w s u1 v1 t u2 v2
  have Htwo := hiD htwo
  obtain ⟨-, c0, c1, c2, c3, c4, c5⟩ := htwo.all
  clear htwo
  clear hu1 hv1 hu2 hv2 hs1 hs2
  go_enter Tryz.func81, Tryz.ntmps81
  go_wp2_with fail
  go_region_held3 (fun w' => Two w.heap.size s u1 v1 t u2 v2 w w' ∧ w'.cell? ⟨w.heap.size, 0, none⟩ = some (.bool s) ∧ w'.cell? ⟨w.heap.size, 1, none⟩ = some u1 ∧ w'.cell? ⟨w.heap.size, 2, none⟩ = some v1 ∧
      w'.cell? ⟨w.heap.size + 1, 0, none⟩ = some (.bool t) ∧ w'.cell? ⟨w.heap.size + 1, 1, none⟩ = some u2 ∧ w'.cell? ⟨w.heap.size + 1, 2, none⟩ = some v2)
    (first | exact Two.all (Two.drew Htwo.out) | exact Two.all Htwo.out | (go_split_ands; exact Two.all (Two.next (by assumption) hb1)) | (go_split_ands; exact Two.all (Two.next (by assumption) hb2)) | (go_split_ands; exact Two.all (Two.next (by assumption) hb3)) | (go_split_ands; exact Two.all (Two.put3 (by assumption) (Nat.le_refl _) _ _ _ _ _ _ _)) | go_keep)
    (first | (go_at_call_of 128 u1; go_split_ands; refine (hm1.out _ (Two.below (by assumption))).mono ?_; rintro e w1 ⟨vt, rfl, hvt, hb1⟩; obtain ⟨pt, nt, ct, rfl⟩ := hvt.slice) | (go_at_call_of 128 v1; go_split_ands; refine (hm2.out _ (Two.below (by assumption))).mono ?_; rintro e w2 ⟨vb, rfl, hvb, hb2⟩; obtain ⟨pb, nb, cb, rfl⟩ := hvb.slice) | (go_at_call 129; go_split_ands; refine (signed_nat _ _ _ _ _ _ (NatAt.below (by assumption) (by assumption)) (by assumption)).mono ?_; rintro e w3 ⟨rfl, hb3⟩; have htw := Two.next (by assumption) hb3; obtain ⟨z0, z1, z2, k0, k1, k2, f0, f1, f2⟩ := Two.slots htw))
  go_wp2_with fail
  have q1 := htw.nat3 (Nat.le_refl _) ((hvt.below hb2).below hb3) ((s != t) && !(a * c == 0)) pt pb nt ct nb cb
  have q2 := htw.nat3 (Nat.le_refl _) (hvb.below hb3) ((s != t) && !(a * c == 0)) pt pb nt ct nb cb
  have q3 := (htw.put3 (Nat.le_refl _) ((s != t) && !(a * c == 0)) pt pb nt ct nb cb).below
  have hfin : Hid (∀ W, W = (((w3.setCell ⟨w.heap.size + 1 + 1, 0, none⟩ (.bool ((s != t) && !(a * c == 0)))).setCell ⟨w.heap.size + 1 + 1, 1, none⟩ (.slice pt nt ct)).setCell ⟨w.heap.size + 1 + 1, 2, none⟩ (.slice pb nb cb)) → RatPost (s != t) (a * c) (b * d) w (.returned (.agg #[.bool ((s != t) && !(a * c == 0)), .slice pt nt ct, .slice pb nb cb])) W) := hiD (by
    rintro W rfl
    exact ⟨_, rfl, ⟨_, _, rfl, q1, q2, by intro h; simp at h; omega⟩, q3⟩)
  refine bodyPost_ret (v := .agg #[.bool (!(s == t) && !(a * c == 0)), .slice pt nt ct, .slice pb nb cb]) (by simp [results, Tryz.results81, go_sem, k0, k1, k2]) rfl ?_
  exact hfin.out _ rfl
end Go.Proofs.YtoegbjmoecbjdaaGreatDoor
namespace Big
def ratv (s : Bool) (a b : Nat) : Rat := (if s then -(a : Rat) else (a : Rat)) / (b : Rat)
theorem natCast_ne {b : Nat} (h : 0 < b) : (b : Rat) ≠ 0 := by
  intro e
  have : ((b : Int) : Rat) = ((0 : Int) : Rat) := by simpa using e
  have := Rat.intCast_inj.1 this
  omega
theorem ratv_drop (s : Bool) (a b : Nat) : ratv (s && !(a == 0)) a b = ratv s a b := by
  cases s
  · rfl
  · by_cases h : a = 0
    · subst h; simp [ratv]
    · have h1 : (a == 0) = false := by simpa using h
      rw [h1]; rfl
theorem ratv_mul {s t : Bool} {a b c d : Nat} (hb : 0 < b) (hd : 0 < d) : ratv (s != t) (a * c) (b * d) = ratv s a b * ratv t c d := by
  have h1 := natCast_ne hb
  have h2 := natCast_ne hd
  unfold ratv
  rw [Rat.natCast_mul, Rat.natCast_mul]
  cases s <;> cases t <;> simp <;> grind
theorem ratv_quo {s t : Bool} {a b c d : Nat} (hb : 0 < b) (hd : 0 < d) (hc : 0 < c) : ratv (s != t) (a * d) (b * c) = ratv s a b / ratv t c d := by
  have h1 := natCast_ne hb
  have h2 := natCast_ne hd
  have h3 := natCast_ne hc
  unfold ratv
  rw [Rat.natCast_mul, Rat.natCast_mul]
  cases s <;> cases t <;> simp <;> grind
theorem ratv_scale {s : Bool} {a b k : Nat} (hb : 0 < b) (hk : 0 < k) : ratv s (a * k) (b * k) = ratv s a b := by
  have h1 := natCast_ne hb
  have h2 := natCast_ne hk
  unfold ratv
  rw [Rat.natCast_mul, Rat.natCast_mul]
  cases s <;> simp <;> grind
theorem ratv_plus {s : Bool} {a c m : Nat} : ratv s (a + c) m = ratv s a m + ratv s c m := by
  unfold ratv
  rw [Rat.natCast_add]
  cases s <;> simp <;> grind
theorem cast_sub {a c : Nat} (h : c ≤ a) : ((a - c : Nat) : Rat) = (a : Rat) - (c : Rat) := by
  have : ((a - c + c : Nat) : Rat) = (a : Rat) := by rw [Nat.sub_add_cancel h]
  rw [Rat.natCast_add] at this
  grind
theorem ratv_minus {s t : Bool} {a c m : Nat} (h : s ≠ t) (hle : c ≤ a) : ratv s (a - c) m = ratv s a m + ratv t c m := by
  unfold ratv
  rw [cast_sub hle]
  cases s <;> cases t <;> simp at h ⊢ <;> grind
theorem ratv_neg (s : Bool) (a b : Nat) : ratv (!s) a b = - ratv s a b := by
  unfold ratv
  cases s <;> simp <;> grind
end Big
