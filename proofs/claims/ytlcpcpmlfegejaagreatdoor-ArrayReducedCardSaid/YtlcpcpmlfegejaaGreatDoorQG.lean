/- The document's Plus. -/
import Derived.Test.YtlcpcpmlfegejaaGreatDoorRd
import Derived.Outline
import Derived.RegionTactic
import Derived.ChangeAlike
import Derived.BigRegion
import Derived.Deep.RegionHeld3
set_option maxHeartbeats 3200000
set_option maxRecDepth 100000
namespace Go.Proofs.YtlcpcpmlfegejaaGreatDoor
open Go.RowKit Big
theorem QLt.neg {K : Nat} {q : Rat} (h : QLt K q) : QLt K (-q) := ⟨by rw [Rat.neg_num, Int.natAbs_neg]; exact h.1, by rw [Rat.neg_den]; exact h.2⟩
end Go.Proofs.YtlcpcpmlfegejaaGreatDoor
namespace Go.Proofs.YtlcpcpmlfegejaaGreatDoor
open Go.RowKit Big
open Go.Lib
theorem underlying159 : Tryz.prog.underlying 128 = some (.slice 5) := by kernel_rfl
theorem underlying5 : Tryz.prog.underlying 5 = some (.int .u8) := by kernel_rfl
theorem underlying9' : Tryz.prog.underlying 9 = some .string := by kernel_rfl
theorem info5 : (Tryz.prog.info? 5).map (fun i => (i.zero, i.size, i.bytes)) = some (some (.int .u8 0), 1, 1) := by kernel_rfl
def u8s (l : List UInt8) : List Value := l.map fun b => Value.int .u8 (b.toNat : Int)
structure AccB (B : Nat) (w wr : World) (v : Value) (l : List UInt8) : Prop where
  own : wr.ownsRow B 5 1 v l.length (u8s l)
  below : Below B w wr
theorem AccB.next {B : Nat} {w wr w5 : World} {v v5 : Value} {l : List UInt8} {m : Nat} {c : UInt8} {o : Obj} (h : AccB B w wr v l) (hB : B ≤ wr.heap.size) (hm : m = l.length + 1) (hown : w5.ownsRow B 5 1 v5 m (u8s l ++ [.int .u8 (c.toNat : Int)])) (hg : (wr.alloc o).grownBy w5 v.ownBlock) : AccB B w w5 v5 (l ++ [c]) := by
  subst hm
  refine ⟨?_, ?_⟩
  · have e : u8s (l ++ [c]) = u8s l ++ [.int .u8 (c.toNat : Int)] := by simp [u8s]
    rw [e, List.length_append]; exact hown
  · exact (h.below.alloc hB o).grown hg (by simp; omega) (fun k hk => (h.own.lt k hk).1)
theorem AccB.slice {B : Nat} {w wr : World} {v : Value} {l : List UInt8} (h : AccB B w wr v l) : ∃ p c, v = .slice p l.length c ∧ (0 < l.length → ∃ g, p = some ⟨g, 0, none⟩ ∧ B ≤ g ∧ g < wr.heap.size ∧ ∀ j (hj : j < l.length), wr.cell? ⟨g, j, none⟩ = some (.int .u8 (l[j].toNat : Int))) := by
  obtain ⟨h1, h2⟩ := h.own
  rcases h2 with ⟨rfl, h3⟩ | ⟨g, cap, cur, rfl, hg, hh, hn, hm, hs, hc⟩
  · exact ⟨none, 0, by rw [h3], fun hl => by omega⟩
  · refine ⟨_, cap, rfl, fun hl => ⟨g, rfl, hg, (Array.getElem?_eq_some_iff.1 hh).1, fun j hj => ?_⟩⟩
    rw [Nat.mul_one] at hc
    have e : cur[j]? = (u8s l)[j]? := by rw [← hc, List.getElem?_take_of_lt hj, Array.getElem?_toList]
    simp only [World.cell?, hh]
    simp [e, u8s, hj]
theorem pad_split (a b : Nat) : ∀ r, padD (a + b) r = padD a (r / 10 ^ b) ++ padD b (r % 10 ^ b) := by
  induction b with
  | zero => intro r; simp [padD]
  | succ b ih =>
    intro r
    have e1 : r % 10 ^ (b + 1) / 10 = r / 10 % 10 ^ b := by
      rw [Nat.pow_succ, Nat.mul_comm]; exact Nat.mod_mul_right_div_self r 10 (10 ^ b)
    have e2 : r % 10 ^ (b + 1) % 10 = r % 10 := by
      rw [Nat.pow_succ]; exact Nat.mod_mul_left_mod r (10 ^ b) 10
    have e3 : r / 10 / 10 ^ b = r / 10 ^ (b + 1) := by rw [Nat.div_div_eq_div_mul, Nat.pow_succ, Nat.mul_comm]
    show padD (a + b) (r / 10) ++ _ = padD a (r / 10 ^ (b + 1)) ++ (padD b (r % 10 ^ (b + 1) / 10) ++ [UInt8.ofNat (48 + r % 10 ^ (b + 1) % 10)])
    rw [ih, e1, e2, e3, List.append_assoc]
theorem pad_one (d : Nat) : padD 1 d = [UInt8.ofNat (48 + d % 10)] := rfl
theorem pad_limb (l : List Nat) (i : Nat) (hd : Dig B9 l) : padD 9 (l.getD i 0) ++ padD (9 * i) (val B9 (l.take i)) = padD (9 * (i + 1)) (val B9 (l.take (i + 1))) := by
  have h1 := val_lt (l.take i) (hd.take i)
  have h2 : B9 ^ (l.take i).length ≤ B9 ^ i := Nat.pow_le_pow_right B9_pos (by rw [List.length_take]; omega)
  rw [B9_pow] at h2
  rw [show 9 * (i + 1) = 9 + 9 * i from by omega, pad_split, val_take_succD, B9_pow]
  have hp : 0 < 10 ^ (9 * i) := Nat.pow_pos (by omega)
  rw [Nat.add_mul_div_left _ _ hp, Nat.div_eq_of_lt (by rw [B9_pow] at h1; rw [B9_pow] at *; omega), Nat.zero_add, Nat.add_mul_mod_self_left, Nat.mod_eq_of_lt (by rw [B9_pow] at h1; rw [B9_pow] at *; omega)]
theorem pad_digit (d k : Nat) : padD (k + 1) (d % 10 ^ (k + 1)) = UInt8.ofNat (48 + d / 10 ^ k % 10) :: padD k (d % 10 ^ k) := by
  rw [Nat.add_comm k 1, pad_split 1 k, pad_one, Nat.add_comm 1 k]
  have e1 : d % 10 ^ (k + 1) / 10 ^ k = d / 10 ^ k % 10 := by rw [Nat.pow_succ]; exact Nat.mod_mul_right_div_self d (10 ^ k) 10
  have e2 : d % 10 ^ (k + 1) % 10 ^ k = d % 10 ^ k := by
    rw [Nat.pow_succ, Nat.mul_comm]; exact Nat.mod_mul_left_mod d 10 (10 ^ k)
  rw [e1, e2, Nat.mod_mod]; rfl
theorem dig_byte (d : Nat) : ((UInt8.ofNat (48 + d % 10)).toNat : Int) = 48 + (d : Int) % 10 := by
  rw [UInt8.toNat_ofNat']; omega
theorem top_step (d : Nat) (h : d ≠ 0) (r : List UInt8) : (if d = 0 then [] else decDigits d) ++ r = (if d / 10 = 0 then [] else decDigits (d / 10)) ++ (UInt8.ofNat (48 + d % 10) :: r) := by
  rw [if_neg h]
  by_cases h1 : d < 10
  · rw [if_pos (by omega), decDigits_one h1, Nat.mod_eq_of_lt h1]; rfl
  · rw [if_neg (by omega), dec_big h1]; simp
def TextInv (l : List Nat) (k i : Nat) (b : List UInt8) : Prop := b.length ≤ 9 * i ∧ (i ≤ k → b.reverse = padD (9 * i) (val B9 (l.take i))) ∧ (k < i → b.reverse = decDigits (val B9 l))
theorem natText_pos (p : Option Addr) (k c0 : Nat) (l : List Nat) (w : World) (hk : k ≤ 900000) (hl : Rd w p (k + 1) l) (cl : Canon B9 l) :
    Calls Tryz.prog 148 #[.slice p (k + 1) c0] w fun e w' => e = .returned (.string ⟨(decDigits (val B9 l)).toArray⟩) ∧ Below w.heap.size w w' := by
  obtain ⟨i0, hi, hz0, hz1, hz2⟩ := info_parts info5
  have hki : (k : Int) ≤ 900000 := by omega
  have hk0 : (((k : Int) + 1) == 0) = false := by simp; omega
  have hll : Hid (l.length = k + 1) := hiD hl.len
  have Cl := hiD cl
  have hx0 : Hid (0 < l.getD k 0) := hiD (by
    have h2 : k < l.length := by rw [hl.len]; omega
    apply Nat.pos_of_ne_zero; intro h0
    apply cl.2
    rw [List.getLast?_eq_getElem?, hl.len, Nat.add_sub_cancel, List.getElem?_eq_getElem h2]
    rw [List.getD_eq_getElem?_getD, List.getElem?_eq_getElem h2] at h0
    simpa using h0)
  clear cl
  go_enter Tryz.func148, Tryz.ntmps148
  go_wp2_with (at_make; refine wpList_make_own _ rfl _ _ 128 rfl w.heap.size 5 i0 (.int .u8 0) 1 underlying159 hi hz0 hz1 _ _ _ (9 * (k + 1)) rfl rfl ?b1 ?b2 ?b3 (Nat.le_refl _) ?_)
  case b1 => omega
  case b2 => rw [hz2]; omega
  case b3 => unfold maxLen; omega
  intro w1 hown hgrow
  have hacc0 : Hid (AccB w.heap.size w w1 (.slice (some ⟨w.heap.size, 0, none⟩) 0 (9 * (k + 1))) []) := hiD ⟨hown, (Below.refl _ _).grown hgrow (Nat.le_refl _) (fun k h => by cases h)⟩
  have hinv0 : Hid (TextInv l k 0 []) := hiD ⟨by simp, fun _ => by simp [padD], fun h => by omega⟩
  clear hown hgrow
  go_wp2_with fail
  go_loopw [3, 18] (fun bv iv wr => ∃ (i : Nat) (b : List UInt8) (pb : Option Addr) (nb cb : Nat), iv = .int .i64 i ∧ i ≤ k + 1 ∧ bv = .slice pb nb cb ∧ Hid (TextInv l k i b) ∧ Hid (AccB w.heap.size w wr bv b)) (fun _ iv _ => k + 1 - (intOf iv).toNat)
  case atStart => exact ⟨0, [], _, _, _, rfl, Nat.zero_le _, rfl, hinv0, hacc0⟩
  case round =>
    obtain ⟨i, b, pb, nb, cb, rfl, hik, rfl, hinv, hacc⟩ := hrel
    by_cases h1 : i < k + 1
    · have e1 : (i : Int) < k + 1 := by omega
      obtain ⟨b1, o1, d0, rfl, hb1, hc1, hd0⟩ := hl.at (k := i) (by omega)
      have g1 : wr.cell? ⟨b1, o1 + i, none⟩ = some (.int .u64 (d0 : Int)) := (hacc.out.below.cell (p := ⟨b1, o1 + i, none⟩) hb1).trans hc1
      have hd9 : Hid (d0 < 10 ^ 9) := hiD (by have h := Cl.out.1.getD B9_pos i; rw [hd0.out, B9_eq] at h; omega)
      clear hc1
      by_cases h2 : i < k
      · have e2 : (i : Int) + 1 < k + 1 := by omega
        have hst : Hid (b.reverse = padD 0 (d0 % 10 ^ 0) ++ padD (9 * i) (val B9 (l.take i)) ∧ b.length ≤ 9 * i + 0) := hiD ⟨by rw [hinv.out.2.1 (by omega)]; rfl, by have := hinv.out.1; omega⟩
        go_wp2_with fail
        go_loopw [3, 5, 6] (fun bv dv jv w2 => ∃ (j d : Nat) (b' : List UInt8) (pb : Option Addr) (nb cb : Nat), jv = .int .i64 j ∧ j ≤ 9 ∧ dv = .int .u64 d ∧ bv = .slice pb nb cb ∧ Hid (d = d0 / 10 ^ j) ∧ Hid (b'.reverse = padD j (d0 % 10 ^ j) ++ padD (9 * i) (val B9 (l.take i)) ∧ b'.length ≤ 9 * i + j) ∧ Hid (AccB w.heap.size w w2 bv b')) (fun _ _ jv _ => 9 - (intOf jv).toNat)
        case atStart => exact ⟨0, d0, b, _, _, _, rfl, by omega, rfl, rfl, hiD (by rw [Nat.pow_zero, Nat.div_one]), hst, hacc⟩
        case round =>
          obtain ⟨j, d, b', pb, nb, cb, rfl, hj9, rfl, rfl, hdj, hrev, hacc2⟩ := hrel
          by_cases h3 : j < 9
          · have e3 : (j : Int) < 9 := by omega
            obtain ⟨cd, hcd⟩ : ∃ cd : UInt8, Hid (cd = UInt8.ofNat (48 + d % 10)) := ⟨_, hiD rfl⟩
            have hcv : (48 : Int) + (d : Int) % 10 = (cd.toNat : Int) := by rw [hcd.out, dig_byte]
            have hdb : (d : Int) ≤ 999999999 := by
              have h4 : d ≤ d0 := by rw [hdj.out]; exact Nat.div_le_self _ _
              have h5 := hd9.out
              omega
            have hlen : Hid (b'.length + 1 ≤ maxLen ∧ (b'.length + 1) * 1 ≤ 140737488355328 ∧ w.heap.size ≤ wr.heap.size + 1) := hiD (by
              have h4 := hrev.out.2
              have h5 := hacc2.out.below.size
              unfold maxLen; omega)
            have hnext : Hid ((b' ++ [cd]).reverse = padD (j + 1) (d0 % 10 ^ (j + 1)) ++ padD (9 * i) (val B9 (l.take i)) ∧ (b' ++ [cd]).length ≤ 9 * i + (j + 1)) := hiD ⟨by
              rw [List.reverse_append, hrev.out.1, pad_digit, hcd.out, hdj.out]; rfl, by have := hrev.out.2; simp; omega⟩
            go_wp2_with (at_builtin; refine wpList_append_own _ rfl (.tmp 38) (.tmp 43) 128 rfl w.heap.size 5 i0 (.int .u8 0) 1 1 underlying159 hi hz0 hz1 hz2 rfl (by decide) _ _ _ rfl ((hacc2.out.own).alloc _) ⟨_, 0, none⟩ 1 1 [.int .u8 (cd.toNat : Int)] rfl rfl (cell_one_new _ _ _) (by intro u hu; simp at hu; subst hu; rfl) hlen.out.1 hlen.out.2.1 (by simp; exact hlen.out.2.2) ?_)
            intro v5 w5 hown5 hgrow5 _
            have hacc5 := hiD (hacc2.out.next hacc2.out.below.size rfl hown5 hgrow5)
            obtain ⟨p5, c5, rfl, -⟩ := hacc5.out.slice
            clear hown5 hgrow5
            go_wp2_with fail
            go_roundw
            case rel => exact ⟨j + 1, d / 10, _, _, _, _, by go_num, by omega, rfl, rfl, hiD (by rw [hdj.out, Nat.div_div_eq_div_mul, Nat.pow_succ]), hnext, hacc5⟩
            case measure => simp [intOf]; omega
          · obtain rfl : j = 9 := by omega
            have hinv2 : Hid (TextInv l k (i + 1) b') := hiD ⟨by have := hrev.out.2; omega, fun _ => by
              have h4 := hrev.out.1
              rw [Nat.mod_eq_of_lt hd9.out, ← hd0.out, pad_limb l i Cl.out.1] at h4
              exact h4, fun h => by omega⟩
            go_wp2_with fail
            go_roundw
            case rel => exact ⟨i + 1, b', _, _, _, by go_num, by omega, rfl, hinv2, hacc2⟩
            case measure => simp [intOf]; omega
      · obtain rfl : i = k := by omega
        have e2 : ¬ (i : Int) + 1 < i + 1 := by omega
        have hd0p : Hid (d0 ≠ 0) := hiD (by have := hx0.out; rw [hd0.out] at this; omega)
        have hst : Hid ((if d0 = 0 then [] else decDigits d0) ++ b.reverse = decDigits (val B9 l) ∧ b.length ≤ 9 * i + 0 ∧ d0 < 10 ^ (9 - 0)) := hiD ⟨by
          rw [if_neg hd0p.out, hinv.out.2.1 (Nat.le_refl _)]
          have h4 := val_take_succD B9 l i
          rw [List.take_of_length_le (by rw [hll.out]; omega), hd0.out, B9_pow] at h4
          have h5 := val_lt (l.take i) (Cl.out.1.take i)
          rw [List.length_take, Nat.min_eq_left (by rw [hll.out]; omega), B9_pow] at h5
          rw [← dec_split _ _ _ (by have := hd0p.out; omega) h5, h4, Nat.add_comm, Nat.mul_comm], by have := hinv.out.1; omega, hd9.out⟩
        clear hinv
        go_wp2_with fail
        go_loopw [3, 5, 6] (fun bv dv jv w2 => ∃ (j d : Nat) (b' : List UInt8) (pb : Option Addr) (nb cb : Nat), jv = .int .i64 j ∧ j ≤ 9 ∧ dv = .int .u64 d ∧ bv = .slice pb nb cb ∧ Hid ((if d = 0 then [] else decDigits d) ++ b'.reverse = decDigits (val B9 l) ∧ b'.length ≤ 9 * i + j ∧ d < 10 ^ (9 - j)) ∧ Hid (AccB w.heap.size w w2 bv b')) (fun _ _ jv _ => 9 - (intOf jv).toNat)
        case atStart => exact ⟨0, d0, b, _, _, _, rfl, by omega, rfl, rfl, hst, hacc⟩
        case round =>
          obtain ⟨j, d, b', pb, nb, cb, rfl, hj9, rfl, rfl, hrev, hacc2⟩ := hrel
          by_cases h3 : d = 0
          · subst h3
            have hinv2 : Hid (TextInv l i (i + 1) b') := hiD ⟨by have := hrev.out.2.1; omega, fun h => by omega, fun _ => by
              have h4 := hrev.out.1
              rw [if_pos rfl] at h4
              exact h4⟩
            by_cases h4 : j < 9
            · have e3 : (j : Int) < 9 := by omega
              go_wp2_with fail
              go_roundw
              case rel => exact ⟨i + 1, b', _, _, _, by go_num, by omega, rfl, hinv2, hacc2⟩
              case measure => simp [intOf]
            · obtain rfl : j = 9 := by omega
              go_wp2_with fail
              go_roundw
              case rel => exact ⟨i + 1, b', _, _, _, by go_num, by omega, rfl, hinv2, hacc2⟩
              case measure => simp [intOf]
          · have h4 : j < 9 := by
              apply Nat.lt_of_le_of_ne hj9
              rintro rfl
              have := hrev.out.2.2
              simp at this; omega
            have e3 : (j : Int) < 9 := by omega
            have e4 : (0 : Int) < d := by omega
            obtain ⟨cd, hcd⟩ : ∃ cd : UInt8, Hid (cd = UInt8.ofNat (48 + d % 10)) := ⟨_, hiD rfl⟩
            have hcv : (48 : Int) + (d : Int) % 10 = (cd.toNat : Int) := by rw [hcd.out, dig_byte]
            have hdb : (d : Int) ≤ 1000000000 := by
              have h5 := hrev.out.2.2
              have h6 : (10 : Nat) ^ (9 - j) ≤ 10 ^ 9 := Nat.pow_le_pow_right (by omega) (by omega)
              omega
            have hlen : Hid (b'.length + 1 ≤ maxLen ∧ (b'.length + 1) * 1 ≤ 140737488355328 ∧ w.heap.size ≤ wr.heap.size + 1) := hiD (by
              have h4 := hrev.out.2.1
              have h5 := hacc2.out.below.size
              unfold maxLen; omega)
            have hnext : Hid ((if d / 10 = 0 then [] else decDigits (d / 10)) ++ (b' ++ [cd]).reverse = decDigits (val B9 l) ∧ (b' ++ [cd]).length ≤ 9 * i + (j + 1) ∧ d / 10 < 10 ^ (9 - (j + 1))) := hiD ⟨by
              rw [List.reverse_append, hcd.out]
              show (if d / 10 = 0 then [] else decDigits (d / 10)) ++ (UInt8.ofNat (48 + d % 10) :: b'.reverse) = _
              rw [← top_step d h3]; exact hrev.out.1, by have := hrev.out.2.1; simp; omega, by
              have h5 := hrev.out.2.2
              rw [show 9 - j = 9 - (j + 1) + 1 from by omega, Nat.pow_succ] at h5
              omega⟩
            clear h3
            go_wp2_with (at_builtin; refine wpList_append_own _ rfl (.tmp 38) (.tmp 43) 128 rfl w.heap.size 5 i0 (.int .u8 0) 1 1 underlying159 hi hz0 hz1 hz2 rfl (by decide) _ _ _ rfl ((hacc2.out.own).alloc _) ⟨_, 0, none⟩ 1 1 [.int .u8 (cd.toNat : Int)] rfl rfl (cell_one_new _ _ _) (by intro u hu; simp at hu; subst hu; rfl) hlen.out.1 hlen.out.2.1 (by simp; exact hlen.out.2.2) ?_)
            intro v5 w5 hown5 hgrow5 _
            have hacc5 := hiD (hacc2.out.next hacc2.out.below.size rfl hown5 hgrow5)
            obtain ⟨p5, c5, rfl, -⟩ := hacc5.out.slice
            clear hown5 hgrow5
            go_wp2_with fail
            go_roundw
            case rel => exact ⟨j + 1, d / 10, _, _, _, _, by go_num, by omega, rfl, rfl, hnext, hacc5⟩
            case measure => simp [intOf]; omega
    · obtain rfl : i = k + 1 := by omega
      have hrev : Hid (b.reverse = decDigits (val B9 l)) := hiD (hinv.out.2.2 (by omega))
      have hblen : Hid (b.length ≤ 9 * (k + 1)) := hiD hinv.out.1
      have hbpos : Hid (0 < b.length) := hiD (by
        have h := congrArg List.length hrev.out
        rw [List.length_reverse, decDigits_length] at h
        have := nDigits_pos (val B9 l); omega)
      obtain ⟨pb', cb', he, hcells⟩ := hacc.out.slice
      obtain ⟨gb, rfl, hgb, hgb2, hcell⟩ := hcells hbpos.out
      cases he
      have Hcell := hiD hcell
      have hmi : (b.length : Int) ≤ 9000000 := by have := hblen.out; omega
      have Hb := hiD hacc.out.below
      have Hgb := hiD hgb2
      clear hinv hacc hcell hcells hgb2
      obtain ⟨B5, hB5⟩ : ∃ B5, B5 = wr.heap.size := ⟨_, rfl⟩
      have HB5 := hiD hB5
      clear hB5
      go_wp2_with (at_make; refine wpList_make_own _ rfl _ _ 128 rfl wr.heap.size 5 i0 (.int .u8 0) 1 underlying159 hi hz0 hz1 _ _ _ b.length rfl rfl rfl ?d2 ?d3 (Nat.le_refl _) ?_)
      case d2 => rw [hz2]; omega
      case d3 => unfold maxLen; omega
      intro w5 hown5 hgrow5
      have hacc5 : Hid (AccB B5 wr w5 (.slice (some ⟨wr.heap.size, 0, none⟩) 0 b.length) (b.drop b.length).reverse) := hiD (by
        rw [List.drop_eq_nil_of_le (Nat.le_refl _)]
        rw [HB5.out]
        exact ⟨hown5, (Below.refl _ _).grown hgrow5 (Nat.le_refl _) (fun k h => by cases h)⟩)
      have Hb5 : Hid (w.heap.size ≤ B5) := hiD (by rw [HB5.out]; exact Hb.out.size)
      have HgB : Hid (gb < B5) := hiD (by rw [HB5.out]; exact Hgb.out)
      clear hown5 hgrow5
      go_wp2_with fail
      go_loopw [7, 8] (fun ov iv w2 => ∃ (j : Nat) (z : Int) (po : Option Addr) (no co : Nat), j ≤ b.length ∧ iv = .int .i64 z ∧ z + 1 = j ∧ ov = .slice po no co ∧ Hid (AccB B5 wr w2 ov (b.drop j).reverse)) (fun _ iv _ => (intOf iv + 1).toNat)
      case atStart => exact ⟨b.length, (b.length : Int) - 1, _, _, _, Nat.le_refl _, rfl, by omega, rfl, hacc5⟩
      case round =>
        obtain ⟨j, z, po, no, co, hjm, rfl, hz, rfl, hac⟩ := hrel
        by_cases h0 : j = 0
        · obtain rfl : z = -1 := by omega
          subst h0
          obtain ⟨po', co', he, hoc⟩ := hac.out.slice
          have hol : Hid ((b.drop 0).reverse = decDigits (val B9 l)) := hiD (by rw [List.drop_zero]; exact hrev.out)
          obtain ⟨go, rfl, _, _, hocell⟩ := hoc (by rw [hol.out, decDigits_length]; exact nDigits_pos _)
          cases he
          have hconv : (convert 128 9 (.slice (some ⟨go, 0, none⟩) b.length co)).run Tryz.prog wr = .ok (.string ⟨(decDigits (val B9 l)).toArray⟩) wr := by
            have e : b.length = (b.drop 0).reverse.length := by simp
            rw [e, run_convert_bytes_back _ 128 9 5 ⟨go, 0, none⟩ co (b.drop 0).reverse underlying159 underlying5 underlying9' (fun j hj => by
              have e2 : (⟨go, 0, none⟩ : Addr).add j = ⟨go, j, none⟩ := by
                simp only [Addr.add]; split
                · rename_i h0; subst h0; rfl
                · simp
              rw [e2]; exact hocell j hj), hol.out]
          have Hconv := hiD hconv
          have Hfin := hiD (Hb.out.trans (hac.out.below.mono Hb5.out))
          clear hz hoc hocell hconv hac
          go_wp2_with fail
          rw [Hconv.out]
          go_wp2_with fail
          go_ret
          exact ⟨rfl, Hfin.out⟩
        · obtain ⟨i, rfl⟩ : ∃ i : Nat, z = i := ⟨z.toNat, by omega⟩
          obtain rfl : j = i + 1 := by omega
          clear hz h0
          have hilt : i < b.length := by omega
          have hii : (i : Int) < b.length := by omega
          obtain ⟨cd, hcd⟩ : ∃ cd : UInt8, Hid (b[i] = cd) := ⟨_, hiD rfl⟩
          have hc2 : wr.cell? ⟨gb, i, none⟩ = some (.int .u8 (cd.toNat : Int)) := by
            rw [← hcd.out, ← Hcell.out i hilt]
            exact hac.out.below.cell (p := ⟨gb, i, none⟩) HgB.out
          have hgbs : Hid (b.drop i = cd :: b.drop (i + 1)) := hiD (by rw [List.drop_eq_getElem_cons hilt, hcd.out])
          have hlen : Hid ((b.drop (i + 1)).reverse.length + 1 ≤ maxLen ∧ ((b.drop (i + 1)).reverse.length + 1) * 1 ≤ 140737488355328) := hiD (by
            rw [List.length_reverse, List.length_drop]; unfold maxLen; omega)
          have hsz : Hid (B5 ≤ wr.heap.size ∧ B5 ≤ wr.heap.size + 1) := hiD (by
            have h1 := hac.out.below.size
            have h2 := HB5.out
            omega)
          go_wp2_with (at_builtin; refine wpList_append_own _ rfl (.tmp 58) (.tmp 63) 128 rfl B5 5 i0 (.int .u8 0) 1 1 underlying159 hi hz0 hz1 hz2 rfl (by decide) _ _ _ rfl ((hac.out.own).alloc _) ⟨_, 0, none⟩ 1 1 [.int .u8 (cd.toNat : Int)] rfl rfl (cell_one_new _ _ _) (by intro u hu; simp at hu; subst hu; rfl) hlen.out.1 hlen.out.2 (by simp; exact hsz.out.2) ?_)
          intro v6 w6 hown6 hgrow6 _
          have hac6 := hiD (hac.out.next (c := cd) hsz.out.1 (by simp) hown6 hgrow6)
          have e6 : (b.drop (i + 1)).reverse ++ [cd] = (b.drop i).reverse := by rw [hgbs.out]; simp
          rw [e6] at hac6
          obtain ⟨p6, c6, rfl, -⟩ := hac6.out.slice
          clear hown6 hgrow6
          go_wp2_with fail
          go_roundw
          case rel => exact ⟨i, (i : Int) - 1, _, _, _, by omega, rfl, by omega, rfl, hac6⟩
          case measure => simp [intOf]
theorem natText_any (v : Value) (x K : Nat) (w : World) (hK : K ≤ 900000) (hx : x < B9 ^ K) (hv : Nat9 w v x) : Calls Tryz.prog 148 #[v] w fun e w' => e = .returned (.string ⟨(decDigits x).toArray⟩) ∧ Below w.heap.size w w' := by
  obtain ⟨p, n, c, l, rfl, h1, h2, h3, h4⟩ := hv
  by_cases h0 : n = 0
  · subst h0
    have hl : l = [] := List.eq_nil_of_length_eq_zero h2.len
    subst hl
    have hx0 : x = 0 := h4.symm
    subst hx0
    have hd : decDigits 0 = [48] := by rw [decDigits_one (by omega)]; rfl
    rw [hd]
    clear h1 h2 h3 h4 hx
    go_enter Tryz.func148, Tryz.ntmps148
    go_wp2_with fail
    go_ret
    exact ⟨rfl, Below.refl _ _⟩
  · obtain ⟨k, rfl⟩ : ∃ k, n = k + 1 := ⟨n - 1, by omega⟩
    have := pow9 h3 h4 hx h2
    rw [← h4]
    exact natText_pos p k c l w (by omega) h2 h3
end Go.Proofs.YtlcpcpmlfegejaaGreatDoor
set_option maxHeartbeats 3200000
set_option maxRecDepth 100000
namespace Go.Proofs.YtlcpcpmlfegejaaGreatDoor
open Go.Lib Big
def cntD (l : List UInt8) : Nat := (l.takeWhile isDig).length
end Go.Proofs.YtlcpcpmlfegejaaGreatDoor
namespace Go.Proofs.YtlcpcpmlfegejaaGreatDoor
open Go.RowKit Go.Lib Big
end Go.Proofs.YtlcpcpmlfegejaaGreatDoor
set_option maxHeartbeats 1600000
set_option maxRecDepth 100000
namespace Go.Proofs.YtlcpcpmlfegejaaGreatDoor
open Go.RowKit Go.Lib Big
abbrev Blk := Nat × Array Value × TypeId
section
variable {w0 W W' : World} {L : List Blk}
end
theorem tw_len (p : UInt8 → Bool) (l : List UInt8) (k : Nat) (hk : k ≤ l.length) (ha : (l.take k).all p = true) (hs : k = l.length ∨ ∃ h : k < l.length, p l[k] = false) : (l.takeWhile p).length = k := by
  induction l generalizing k with
  | nil => simp at hk; simp [hk]
  | cons x l ih =>
    cases k with
    | zero =>
      rcases hs with hs | ⟨h, hs⟩
      · simp at hs
      · have : p x = false := hs
        simp [this]
    | succ k =>
      rw [List.take_succ_cons, List.all_cons, Bool.and_eq_true] at ha
      rw [List.takeWhile_cons, if_pos ha.1, List.length_cons, ih k (by simpa using hk) ha.2]
      rcases hs with hs | ⟨h, hs⟩
      · exact .inl (by simpa using hs)
      · exact .inr ⟨by simpa using h, by simpa using hs⟩
theorem all_take_succ' (p : UInt8 → Bool) (l : List UInt8) (k : Nat) (h : k < l.length) (ha : (l.take k).all p = true) (hd : p l[k] = true) : (l.take (k + 1)).all p = true := by
  rw [List.take_succ_eq_append_getElem h, List.all_append, ha]; simp [hd]
end Go.Proofs.YtlcpcpmlfegejaaGreatDoor
