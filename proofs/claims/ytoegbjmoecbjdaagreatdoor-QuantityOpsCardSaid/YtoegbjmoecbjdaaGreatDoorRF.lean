/- The document's NatMul. -/
import Derived.Test.YtoegbjmoecbjdaaGreatDoorRE
set_option maxHeartbeats 3200000
set_option maxRecDepth 100000
namespace Go.Proofs.YtoegbjmoecbjdaaGreatDoor
open Go.RowKit Big
structure MulIn9 (L0 : List Nat) (i x : Nat) (y : List Nat) (k c : Nat) (L : List Nat) : Prop where
  put : Put L0 i k L
  dig : Dig B9 L
  car : c < B9
  eq : val B9 (seg L i k) + B9 ^ k * c = val B9 (seg L0 i k) + val B9 (y.take k) * x
theorem MulIn9.start {L0 : List Nat} (h : Dig B9 L0) (i x : Nat) (y : List Nat) : MulIn9 L0 i x y 0 0 L0 :=
  ⟨Put.refl _ _, h, B9_pos, by simp [seg_zero, val]⟩
theorem MulIn9.step {L0 L : List Nat} {i x k c : Nat} {y : List Nat} (h : MulIn9 L0 i x y k c L) (hk : i + k < L0.length) (a b : Nat) (ha : L.getD (i + k) 0 = a) (hb : y.getD k 0 = b) (dx : x < B9) (db : b < B9) :
    MulIn9 L0 i x y (k + 1) ((a + x * b + c) / B9) (L.set (i + k) ((a + x * b + c) % B9)) := by
  have hlen := h.put.length
  have ha9 : a < B9 := by rw [← ha]; exact h.dig.getD B9_pos _
  have ha0 : L0.getD (i + k) 0 = a := by rw [← h.put.getD (i + k) (Nat.le_refl _)]; exact ha
  have hm : (a + x * b + c) % B9 + B9 * ((a + x * b + c) / B9) = a + b * x + c := by
    rw [Nat.mod_add_div, Nat.mul_comm x b]
  refine ⟨h.put.set _, h.dig.set _ _ (Nat.mod_lt _ B9_pos), ?_, ?_⟩
  · rw [Nat.div_lt_iff_lt_mul B9_pos]
    have h1 : x * b ≤ (B9 - 1) * (B9 - 1) := Nat.mul_le_mul (by omega) (by omega)
    have h2 : (B9 - 1) * (B9 - 1) + 2 * (B9 - 1) < B9 * B9 := by rw [B9_eq]; decide
    have h3 := h.car
    omega
  · rw [h.put.seg_set (by omega), val_snoc, seg_length _ _ _ (by omega), seg_succ L0 i k hk, val_snoc, seg_length _ _ _ (by omega), ha0, val_take_succD, hb, Nat.pow_succ]
    exact addmul_step h.eq hm
structure MulInv9 (x y : List Nat) (i : Nat) (L : List Nat) : Prop where
  len : L.length = x.length + y.length
  dig : Dig B9 L
  eq : val B9 (seg L 0 (y.length + i)) = val B9 y * val B9 (x.take i)
  zero : ∀ j, y.length + i ≤ j → j < x.length + y.length → L.getD j 0 = 0
theorem MulInv9.start (x y : List Nat) : MulInv9 x y 0 (List.replicate (x.length + y.length) 0) :=
  ⟨by simp, Dig.zeros B9_pos _, by simp [seg, val, val_zeros], fun j _ h => by simp [List.getD_eq_getElem?_getD, h]⟩
theorem seg_split (M : List Nat) (a b : Nat) : seg M 0 (a + b) = seg M 0 a ++ seg M a b := by
  simp only [seg, List.drop_zero]; rw [List.take_add]
theorem MulInv9.step {x y : List Nat} {i c : Nat} {L L' : List Nat} (h : MulInv9 x y i L) (hi : i < x.length) (a : Nat) (ha : x.getD i 0 = a) (hin : MulIn9 L i a y y.length c L') :
    MulInv9 x y (i + 1) (L'.set (i + y.length) c) := by
  have hput2 := hin.put.set c
  have hlen : (L'.set (i + y.length) c).length = L.length := hput2.length
  have hL := h.len
  have h1 : seg (L'.set (i + y.length) c) 0 (y.length + (i + 1)) = seg L 0 i ++ (seg L' i y.length ++ [c]) := by
    rw [show y.length + (i + 1) = i + (y.length + 1) from by omega, seg_split, hput2.before_seg 0 i (by omega), hin.put.seg_set (by omega)]
  have h2 : seg L 0 (y.length + i) = seg L 0 i ++ seg L i y.length := by rw [show y.length + i = i + y.length from by omega, seg_split]
  have hl0 : (seg L 0 i).length = i := seg_length _ _ _ (by omega)
  have hl1 : (seg L' i y.length).length = y.length := seg_length _ _ _ (by rw [hin.put.length]; omega)
  refine ⟨by rw [hlen]; exact hL, hin.dig.set _ _ hin.car, ?_, ?_⟩
  · have h3 := h.eq
    have h4 := hin.eq
    rw [List.take_of_length_le (Nat.le_refl _)] at h4
    rw [h1, val_append, val_snoc, hl0, hl1, h4, val_take_succD, ha]
    rw [h2, val_append, hl0] at h3
    rw [Nat.mul_add, Nat.mul_add, ← h3]
    grind
  · intro j h3 h4
    rw [hput2.getD j (by omega)]; exact h.zero j (by omega) h4
theorem MulInv9.done {x y : List Nat} {L : List Nat} (h : MulInv9 x y x.length L) : val B9 L = val B9 x * val B9 y := by
  have h1 := h.eq
  rw [seg_all L _ (by rw [h.len]; omega), List.take_of_length_le (Nat.le_refl _)] at h1
  rw [h1, Nat.mul_comm]
theorem natMul_any (p : Option Addr) (n c0 : Nat) (x : List Nat) (q : Option Addr) (m d0 : Nat) (y : List Nat) (w : World) (hn0 : n ≤ most) (hm0 : m ≤ most) (hx : Rd w p n x) (hy : Rd w q m y) (dx : Dig B9 x) (dy : Dig B9 y) :
    Calls Tryz.prog 92 #[.slice p n c0, .slice q m d0] w (Post9 (val B9 x * val B9 y) w) := by
  obtain ⟨i0, hi, hz0, hz1, hz2⟩ := info_parts info79
  have hn : (n : Int) ≤ 4294967296 := by unfold most at hn0; omega
  have hm : (m : Int) ≤ 4294967296 := by unfold most at hm0; omega
  have HX := hiD dx
  have HY := hiD dy
  have hlx : Hid (x.length = n) := hiD hx.len
  have hly : Hid (y.length = m) := hiD hy.len
  clear dx dy
  go_enter Tryz.func92, Tryz.ntmps92
  go_wp2_with (at_make; refine wpList_make_full _ rfl _ _ 36 rfl w.heap.size 76 i0 (.int .u64 0) 1 underlying36 hi hz0 hz1 _ _ _ _ (n + m) rfl rfl (by omega) (by omega) ?b2 ?b3 (Nat.le_refl _) ?_)
  case b2 => rw [hz2]; omega
  case b3 => unfold maxLen; omega
  intro w1 hown hgrow
  have hr1 : Row w1 w.heap.size 76 (List.replicate (n + m) 0) := row_of_made hown
  have hb1 : Below w.heap.size w w1 := (Below.refl _ _).grown hgrow (Nat.le_refl _) (fun k h => by cases h)
  have hst : Hid (MulInv9 x y 0 (List.replicate (n + m) 0)) := hiD (by have := MulInv9.start x y; rw [hlx.out, hly.out] at this; exact this)
  clear hown hgrow
  go_wp2_with fail
  go_loopw [20] (fun iv wr => ∃ (i : Nat) (L : List Nat), iv = .int .i64 i ∧ i ≤ n ∧ Hid (MulInv9 x y i L) ∧ Row wr w.heap.size 76 L ∧ Below w.heap.size w wr) (fun iv _ => n - (intOf iv).toNat)
  case atStart => exact ⟨0, _, rfl, Nat.zero_le _, hst, hr1, hb1⟩
  case round =>
    obtain ⟨i, L, rfl, hin, hinv, hr, hb⟩ := hrel
    by_cases h1 : i < n
    · have e1 : (i : Int) < n := by omega
      obtain ⟨b1, o1, a, rfl, hb1', hc1, ha⟩ := hx.at (k := i) (by omega)
      have g1 : wr.cell? ⟨b1, o1 + i, none⟩ = some (.int .u64 (a : Int)) := (hb.cell (p := ⟨b1, o1 + i, none⟩) hb1').trans hc1
      have da : a < B9 := by rw [← ha.out]; exact HX.out.getD B9_pos i
      have da9 : (a : Int) ≤ 999999999 := by rw [B9_eq] at da; omega
      have Da := hiD da
      have hst2 : Hid (MulIn9 L i a y 0 0 L) := hiD (MulIn9.start hinv.out.dig i a y)
      clear da hc1
      go_wp2_with fail
      go_loopw [8, 27] (fun cv kv w2 => ∃ (k c : Nat) (L' : List Nat), cv = .int .u64 c ∧ kv = .int .i64 k ∧ k ≤ m ∧ Hid (MulIn9 L i a y k c L') ∧ Row w2 w.heap.size 76 L' ∧ Below w.heap.size w w2) (fun _ kv _ => m - (intOf kv).toNat)
      case atStart => exact ⟨0, 0, L, rfl, rfl, Nat.zero_le _, hst2, hr, hb⟩
      case round =>
        obtain ⟨k, c, L', rfl, rfl, hkm, hin2, hr2, hb2⟩ := hrel
        have hl' : Hid (L'.length = n + m) := hiD (by rw [hin2.out.put.length, hinv.out.len, hlx.out, hly.out])
        have hcb : (c : Int) ≤ 999999999 := by have := hin2.out.car; rw [B9_eq] at this; omega
        by_cases h2 : k < m
        · have e2 : (k : Int) < m := by omega
          obtain ⟨b3, o3, b, rfl, hb3', hc3, hbd⟩ := hy.at (k := k) (by omega)
          have g2 : wr.cell? ⟨b3, o3 + k, none⟩ = some (.int .u64 (b : Int)) := (hb2.cell (p := ⟨b3, o3 + k, none⟩) hb3').trans hc3
          have db : b < B9 := by rw [← hbd.out]; exact HY.out.getD B9_pos k
          have db9 : (b : Int) ≤ 999999999 := by rw [B9_eq] at db; omega
          obtain ⟨z, hz⟩ : ∃ z, Hid (L'.getD (i + k) 0 = z) := ⟨_, hiD rfl⟩
          have hcell := hr2.cell (i + k) (by rw [hl'.out]; omega)
          rw [hz.out] at hcell
          have hfree := hr2.free (i + k)
          have hz9 : (z : Int) ≤ 999999999 := by have := hin2.out.dig.getD B9_pos (i + k); rw [hz.out, B9_eq] at this; omega
          obtain ⟨ab, habn⟩ : ∃ ab : Nat, Hid (ab = a * b) := ⟨_, hiD rfl⟩
          have hab : (a : Int) * b = (ab : Int) := by rw [habn.out]; simp
          have hab2 : (ab : Int) ≤ 999999998000000001 := by
            have h5 : a * b ≤ 999999999 * 999999999 := Nat.mul_le_mul (by omega) (by omega)
            rw [habn.out]; omega
          have hstep := hiD (hin2.out.step (by rw [hinv.out.len, hlx.out, hly.out]; omega) z b hz.out hbd.out Da.out db)
          rw [← habn.out] at hstep
          obtain ⟨s1, hs1⟩ : ∃ s1 : Nat, Hid (s1 = (z + ab + c) % B9) := ⟨_, hiD rfl⟩
          obtain ⟨s2, hs2⟩ : ∃ s2 : Nat, Hid (s2 = (z + ab + c) / B9) := ⟨_, hiD rfl⟩
          rw [← hs1.out, ← hs2.out] at hstep
          have hw1 : ((z : Int) + ab + c) % 1000000000 = (s1 : Int) := by rw [hs1.out, B9_eq]; omega
          have hw2 : ((z : Int) + ab + c) / 1000000000 = (s2 : Int) := by rw [hs2.out, B9_eq]; omega
          clear db hc3
          go_wp2_with fail
          go_roundw
          case rel => exact ⟨k + 1, s2, _, by rw [hw2], by go_num, by omega, hstep, hr2.set _ _, hb2.setCell (Nat.le_refl _) _⟩
          case measure => simp [intOf]; omega
        · obtain rfl : k = m := by omega
          have hcell := hr2.cell (i + k) (by rw [hl'.out]; omega)
          have hfree := hr2.free (i + k)
          have hstep := hiD (hinv.out.step (by rw [hlx.out]; omega) a ha.out (by rw [hly.out]; exact hin2.out))
          rw [hly.out] at hstep
          go_wp2_with fail
          go_roundw
          case rel => exact ⟨i + 1, _, by go_num, by omega, hstep, hr2.set _ _, hb2.setCell (Nat.le_refl _) _⟩
          case measure => simp [intOf]; omega
    · obtain rfl : i = n := by omega
      have hrd := hr.rd0 (i + m) (by rw [hinv.out.len, hlx.out, hly.out])
      have ht : Hid (Calls Tryz.prog 138 #[.slice (some ⟨w.heap.size, 0, none⟩) (i + m) (i + m)] wr (Post9 (val B9 x * val B9 y) w)) := hiD (by
        have hd := hinv.out
        rw [← hlx.out] at hd
        rw [← hd.done]
        exact (trim_any _ _ _ L wr (by unfold maxLen; omega) (Nat.le_refl _) hrd).mono fun _ _ h => trim_post9 ⟨Nat.le_refl _, fun h => by cases h⟩ (fun b o h => by cases h; exact Nat.le_refl _) hrd hinv.out.dig hb h)
      clear hrd
      go_wp2_with fail
      refine ht.out.mono ?_
      rintro e w4 ⟨v, rfl, hv⟩
      go_wp2_with fail
      go_ret
      exact ⟨v, rfl, hv⟩
theorem natMul_nat (u v : Value) (a b K L : Nat) (w : World) (hK : K ≤ most) (hL : L ≤ most) (ha : a < B9 ^ K) (hb : b < B9 ^ L) (hu : Nat9 w u a) (hv : Nat9 w v b) : Calls Tryz.prog 92 #[u, v] w (Post9 (a * b) w) := by
  obtain ⟨p, n, c, x, rfl, h1, h2, h3, h4⟩ := hu
  obtain ⟨q, m, d, y, rfl, g1, g2, g3, g4⟩ := hv
  have hn := pow9 h3 h4 ha h2
  have hm := pow9 g3 g4 hb g2
  rw [← h4, ← g4]
  exact natMul_any p n c x q m d y w (by omega) (by omega) h2 g2 h3.1 g3.1
end Go.Proofs.YtoegbjmoecbjdaaGreatDoor
