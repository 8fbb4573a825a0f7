/- Bits in a row of bytes, the lengths of numbers, least and greatest ones. -/
import Derived.Test.YtpbcdmefngbjjaaGreatDoorMD
import Derived.Lib.BitFns
import Derived.Shelf.Strconv.Itoa0
import Derived.Test.YtpbcdmefngbjjaaGreatDoorProg
import Derived.Test.YtpbcdmefngbjjaaGreatDoorDV
import Derived.BigQuiet
namespace Go.Proofs.YtpbcdmefngbjjaaGreatDoor
/-- The first r bits of byte q, from the most significant one on. -/
def bv (b : Nat → Nat) (q : Nat) : Nat → Nat
  | 0 => 0
  | r + 1 => bv b q r + b (8 * q + r) * 2 ^ (7 - r)
theorem bv_dvd (b : Nat → Nat) (q : Nat) : ∀ r, r ≤ 8 → 2 ^ (8 - r) ∣ bv b q r
  | 0, _ => ⟨0, rfl⟩
  | r + 1, h => by
    have h1 := bv_dvd b q r (by omega)
    have e : 8 - r = (7 - r) + 1 := by omega
    rw [e, Nat.pow_succ] at h1
    have h2 : 2 ^ (7 - r) ∣ bv b q r := Nat.dvd_trans ⟨2, rfl⟩ h1
    have e2 : 8 - (r + 1) = 7 - r := by omega
    rw [e2, bv]
    exact Nat.dvd_add h2 ⟨_, Nat.mul_comm _ _⟩
theorem bv_lt (b : Nat → Nat) (hb : ∀ t, b t < 2) (q : Nat) : ∀ r, r ≤ 8 → bv b q r + 2 ^ (8 - r) ≤ 256
  | 0, _ => by rw [bv]; decide
  | r + 1, h => by
    have h1 := bv_lt b hb q r (by omega)
    have e : 8 - r = (7 - r) + 1 := by omega
    rw [e, Nat.pow_succ] at h1
    have e2 : 8 - (r + 1) = 7 - r := by omega
    have h3 : b (8 * q + r) * 2 ^ (7 - r) ≤ 1 * 2 ^ (7 - r) := Nat.mul_le_mul_right _ (by have := hb (8 * q + r); omega)
    rw [e2, bv]; omega
theorem bv_u8 (b : Nat → Nat) (hb : ∀ t, b t < 2) (q : Nat) {r : Nat} (h : r ≤ 8) : (UInt8.ofNat (bv b q r)).toNat = bv b q r := by
  rw [UInt8.toNat_ofNat']
  refine Nat.mod_eq_of_lt ?_
  have := bv_lt b hb q r h
  have h2 : 0 < 2 ^ (8 - r) := Nat.pow_pos (by decide)
  show _ < 256
  omega
/-- One bit more, by 'or'. -/
theorem bv_or (b : Nat → Nat) (hb : ∀ t, b t < 2) (q : Nat) {r : Nat} (h : r < 8) : bv b q r ||| b (8 * q + r) * 2 ^ (7 - r) = bv b q (r + 1) := by
  obtain ⟨a, ha⟩ := bv_dvd b q r (by omega)
  have hlt : b (8 * q + r) * 2 ^ (7 - r) < 2 ^ (8 - r) := by
    have e : 8 - r = (7 - r) + 1 := by omega
    have h3 : b (8 * q + r) * 2 ^ (7 - r) ≤ 1 * 2 ^ (7 - r) := Nat.mul_le_mul_right _ (by have := hb (8 * q + r); omega)
    have h2 : 0 < 2 ^ (7 - r) := Nat.pow_pos (by decide)
    rw [e, Nat.pow_succ]; omega
  rw [bv, ha, Nat.two_pow_add_eq_or_of_lt hlt]
theorem bv_get (b : Nat → Nat) (hb : ∀ t, b t < 2) (q : Nat) (r : Nat) : ∀ R, r < R → R ≤ 8 → bv b q R / 2 ^ (7 - r) % 2 = b (8 * q + r)
  | 0, h, _ => by omega
  | R + 1, h, h8 => by
    obtain ⟨a, ha⟩ := bv_dvd b q R (by omega)
    by_cases e : r = R
    · subst e
      have e2 : 8 - r = (7 - r) + 1 := by omega
      have hp : 0 < 2 ^ (7 - r) := Nat.pow_pos (by decide)
      rw [bv, ha, e2, Nat.pow_succ, Nat.mul_assoc, Nat.mul_comm (b _), Nat.mul_add_div hp, Nat.mul_div_cancel_left _ hp, Nat.mul_add_mod]
      exact Nat.mod_eq_of_lt (hb _)
    · have hr : r < R := by omega
      have h1 := bv_get b hb q r R hr (by omega)
      have hlt : b (8 * q + R) * 2 ^ (7 - R) < 2 ^ (8 - R) := by
        have e : 8 - R = (7 - R) + 1 := by omega
        have h3 : b (8 * q + R) * 2 ^ (7 - R) ≤ 1 * 2 ^ (7 - R) := Nat.mul_le_mul_right _ (by have := hb (8 * q + R); omega)
        have h2 : 0 < 2 ^ (7 - R) := Nat.pow_pos (by decide)
        rw [e, Nat.pow_succ]; omega
      have hp : 0 < 2 ^ (8 - R) := Nat.pow_pos (by decide)
      have e3 : 2 ^ (7 - r) = 2 ^ (8 - R) * 2 ^ (R - 1 - r) := by rw [← Nat.pow_add]; congr 1; omega
      have e4 : bv b q (R + 1) / 2 ^ (7 - r) = bv b q R / 2 ^ (7 - r) := by
        rw [bv, ha, e3, ← Nat.div_div_eq_div_mul, ← Nat.div_div_eq_div_mul, Nat.mul_add_div hp, Nat.div_eq_of_lt hlt, Nat.add_zero, Nat.mul_div_cancel_left _ hp]
      rw [e4]; exact h1
/-- The bytes of the first T bits. -/
def pkL (b : Nat → Nat) (T : Nat) : List UInt8 := (List.range ((T + 7) / 8)).map fun q => UInt8.ofNat (bv b q (min 8 (T - 8 * q)))
theorem pkL_length (b : Nat → Nat) (T : Nat) : (pkL b T).length = (T + 7) / 8 := by simp [pkL]
theorem pkL_at (b : Nat → Nat) {T q : Nat} (h : q < (T + 7) / 8) : (pkL b T).getD q 0 = UInt8.ofNat (bv b q (min 8 (T - 8 * q))) := by
  rw [List.getD_eq_getElem?_getD, pkL, List.getElem?_map, List.getElem?_range h]; rfl
theorem pkL_new (b : Nat → Nat) {T : Nat} (h : T % 8 = 0) : pkL b (T + 1) = pkL b T ++ [UInt8.ofNat (bv b (T / 8) 1)] := by
  have e1 : (T + 1 + 7) / 8 = (T + 7) / 8 + 1 := by omega
  have e2 : (T + 7) / 8 = T / 8 := by omega
  rw [pkL, e1, List.range_succ, List.map_append, List.map_cons, List.map_nil, e2]
  have e3 : min 8 (T + 1 - 8 * (T / 8)) = 1 := by omega
  rw [e3, pkL, e2]
  congr 1
  refine List.map_congr_left fun q hq => ?_
  rw [List.mem_range] at hq
  have e4 : min 8 (T + 1 - 8 * q) = min 8 (T - 8 * q) := by omega
  rw [e4]
theorem pkL_old (b : Nat → Nat) {T : Nat} (h : T % 8 ≠ 0) : pkL b (T + 1) = (pkL b T).set (T / 8) (UInt8.ofNat (bv b (T / 8) (T % 8 + 1))) := by
  have e1 : (T + 1 + 7) / 8 = (T + 7) / 8 := by omega
  refine List.ext_getElem? fun q => ?_
  rw [List.getElem?_set, pkL, pkL, e1]
  by_cases hq : q < (T + 7) / 8
  · rw [List.getElem?_map, List.getElem?_range hq, Option.map_some]
    by_cases e : T / 8 = q
    · rw [if_pos e, if_pos (by rw [List.length_map, List.length_range]; omega), ← e]
      have e3 : min 8 (T + 1 - 8 * (T / 8)) = T % 8 + 1 := by omega
      rw [e3]
    · rw [if_neg e, List.getElem?_map, List.getElem?_range hq, Option.map_some]
      have e4 : min 8 (T + 1 - 8 * q) = min 8 (T - 8 * q) := by omega
      rw [e4]
  · rw [List.getElem?_eq_none (by rw [List.length_map, List.length_range]; omega), if_neg (by omega), List.getElem?_eq_none (by rw [List.length_map, List.length_range]; omega)]
/-- Bit t of the bytes. -/
theorem pkL_bit (b : Nat → Nat) (hb : ∀ t, b t < 2) {T t : Nat} (h : t < T) : ((pkL b T).getD (t / 8) 0).toNat / 2 ^ (7 - t % 8) % 2 = b t := by
  rw [pkL_at b (by omega), bv_u8 b hb _ (Nat.min_le_left _ _), bv_get b hb (t / 8) (t % 8) _ (by omega) (Nat.min_le_left _ _)]
  congr 1; omega
abbrev bl (x : Nat) : Nat := Lib.bitLen x
theorem aux_eq (f x : Nat) : Lib.bitLenAux (f + 1) x = if x = 0 then 0 else 1 + Lib.bitLenAux f (x / 2) := rfl
theorem aux_same : ∀ (f x : Nat), x < 2 ^ f → Lib.bitLenAux (f + 1) x = Lib.bitLenAux f x
  | 0, x, h => by
    obtain rfl : x = 0 := by simpa using h
    rfl
  | f + 1, x, h => by
    rw [aux_eq (f + 1) x, aux_eq f x]
    by_cases h0 : x = 0
    · rw [if_pos h0, if_pos h0]
    · rw [if_neg h0, if_neg h0, aux_same f (x / 2) (by rw [Nat.pow_succ] at h; omega)]
theorem aux_mono : ∀ (f x y : Nat), x ≤ y → Lib.bitLenAux f x ≤ Lib.bitLenAux f y
  | 0, _, _, _ => Nat.le_refl _
  | f + 1, x, y, h => by
    rw [Lib.bitLenAux, Lib.bitLenAux]
    by_cases h0 : x = 0
    · rw [if_pos h0]; exact Nat.zero_le _
    · rw [if_neg h0, if_neg (by omega)]
      have := aux_mono f (x / 2) (y / 2) (Nat.div_le_div_right h); omega
theorem aux_lt : ∀ (f x : Nat), x < 2 ^ f → x < 2 ^ Lib.bitLenAux f x
  | 0, x, h => h
  | f + 1, x, h => by
    rw [Lib.bitLenAux]
    by_cases h0 : x = 0
    · rw [if_pos h0, h0]; decide
    · rw [if_neg h0, Nat.add_comm 1, Nat.pow_succ]
      have := aux_lt f (x / 2) (by rw [Nat.pow_succ] at h; omega); omega
theorem aux_le : ∀ (f x : Nat), Lib.bitLenAux f x ≤ f
  | 0, _ => Nat.le_refl _
  | f + 1, x => by
    rw [Lib.bitLenAux]
    split
    · omega
    · have := aux_le f (x / 2); omega
theorem bl_le (x : Nat) : bl x ≤ 64 := aux_le 64 x
theorem bl_mono {x y : Nat} (h : x ≤ y) : bl x ≤ bl y := aux_mono 64 x y h
theorem bl_lt {x : Nat} (h : x < W64) : x < 2 ^ bl x := aux_lt 64 x (by unfold W64 at h; omega)
theorem bl_zero : bl 0 = 0 := by decide
theorem bl_step {x : Nat} (h0 : x ≠ 0) (h : x < W64) : bl x = 1 + bl (x / 2) := by
  have e : Lib.bitLen x = 1 + Lib.bitLenAux 63 (x / 2) := by
    show Lib.bitLenAux (63 + 1) x = _
    rw [Lib.bitLenAux, if_neg h0]
  show Lib.bitLen x = 1 + Lib.bitLenAux (63 + 1) (x / 2)
  rw [e, aux_same 63 (x / 2) (by unfold W64 at h; omega)]
/-- The least number of a list, the greatest one. -/
def mnL (gs : List Nat) : Nat := gs.foldl min 18446744073709551615
def mxL (gs : List Nat) : Nat := gs.foldl max 0
theorem foldmin_le : ∀ (gs : List Nat) (a : Nat), gs.foldl min a ≤ a ∧ ∀ g ∈ gs, gs.foldl min a ≤ g
  | [], _ => ⟨Nat.le_refl _, fun _ h => by cases h⟩
  | x :: gs, a => by
    have h := foldmin_le gs (min a x)
    refine ⟨Nat.le_trans h.1 (Nat.min_le_left _ _), fun g hg => ?_⟩
    rw [List.mem_cons] at hg
    rcases hg with rfl | hg
    · exact Nat.le_trans h.1 (Nat.min_le_right _ _)
    · exact h.2 g hg
theorem foldmax_ge : ∀ (gs : List Nat) (a : Nat), a ≤ gs.foldl max a ∧ ∀ g ∈ gs, g ≤ gs.foldl max a
  | [], _ => ⟨Nat.le_refl _, fun _ h => by cases h⟩
  | x :: gs, a => by
    have h := foldmax_ge gs (max a x)
    refine ⟨Nat.le_trans (Nat.le_max_left _ _) h.1, fun g hg => ?_⟩
    rw [List.mem_cons] at hg
    rcases hg with rfl | hg
    · exact Nat.le_trans (Nat.le_max_right _ _) h.1
    · exact h.2 g hg
theorem mnL_le {gs : List Nat} {g : Nat} (h : g ∈ gs) : mnL gs ≤ g := (foldmin_le gs _).2 g h
theorem mxL_ge {gs : List Nat} {g : Nat} (h : g ∈ gs) : g ≤ mxL gs := (foldmax_ge gs _).2 g h
theorem foldmax_lt {M : Nat} : ∀ (gs : List Nat) (a : Nat), a < M → (∀ g ∈ gs, g < M) → gs.foldl max a < M
  | [], _, h, _ => h
  | x :: gs, _, h, hg => foldmax_lt gs _ (Nat.max_lt.2 ⟨h, hg x List.mem_cons_self⟩) (fun g h1 => hg g (List.mem_cons_of_mem _ h1))
theorem mxL_lt {gs : List Nat} (h : ∀ g ∈ gs, g < W64) : mxL gs < W64 := foldmax_lt gs 0 (by decide) h
theorem mnL_lt (gs : List Nat) : mnL gs < W64 := Nat.lt_of_le_of_lt (foldmin_le gs _).1 (by decide)
theorem mnL_mxL {gs : List Nat} (h : gs ≠ []) : mnL gs ≤ mxL gs := by
  cases gs with
  | nil => exact absurd rfl h
  | cons x gs => exact Nat.le_trans (mnL_le List.mem_cons_self) (mxL_ge List.mem_cons_self)
/-- From the first number on. -/
theorem mnL_first {gs : List Nat} (h : gs ≠ []) (hl : ∀ g ∈ gs, g < W64) : gs.foldl min (gs.getD 0 0) = mnL gs := by
  cases gs with
  | nil => exact absurd rfl h
  | cons x gs =>
    have hx : x < W64 := hl x List.mem_cons_self
    show List.foldl min (min x x) gs = List.foldl min (min 18446744073709551615 x) gs
    rw [Nat.min_self, Nat.min_eq_right (by unfold W64 at hx; omega)]
/-- The bits that the greatest difference needs. -/
theorem fold_bl (m : Nat) : ∀ (gs : List Nat) (a : Nat), gs.foldl (fun w g => max w (bl (g - m))) (bl (a - m)) = bl (gs.foldl max a - m)
  | [], _ => rfl
  | x :: gs, a => by
    have e : max (bl (a - m)) (bl (x - m)) = bl (max a x - m) := by
      rcases Nat.le_total a x with h | h
      · rw [Nat.max_eq_right h, Nat.max_eq_right (bl_mono (by omega))]
      · rw [Nat.max_eq_left h, Nat.max_eq_left (bl_mono (by omega))]
    rw [List.foldl_cons, List.foldl_cons, e, fold_bl m gs]
def wdL (gs : List Nat) : Nat := bl (mxL gs - mnL gs)
theorem wdL_fold (gs : List Nat) : gs.foldl (fun w g => max w (bl (g - mnL gs))) 0 = wdL gs := by
  have := fold_bl (mnL gs) gs 0
  rwa [Nat.zero_sub, bl_zero] at this
/-- Bit t of the differences. -/
def btF (gs : List Nat) (m w t : Nat) : Nat := (gs.getD (t / w) 0 - m) / 2 ^ (w - 1 - t % w) % 2
theorem btF_lt (gs : List Nat) (m w t : Nat) : btF gs m w t < 2 := Nat.mod_lt _ (by decide)
theorem btF_at (gs : List Nat) (m : Nat) {w i j : Nat} (hj : j < w) : btF gs m w (i * w + j) = (gs.getD i 0 - m) / 2 ^ (w - 1 - j) % 2 := by
  have h1 : (i * w + j) / w = i := by rw [Nat.mul_comm, Nat.mul_add_div (by omega), Nat.div_eq_of_lt hj, Nat.add_zero]
  have h2 : (i * w + j) % w = j := by rw [Nat.mul_comm, Nat.mul_add_mod, Nat.mod_eq_of_lt hj]
  rw [btF, h1, h2]
/-- A number from its bits: what the first j of w bits make. -/
theorem bits_step (d : Nat) {w j : Nat} (hj : j < w) : d / 2 ^ (w - 1 - j) = 2 * (d / 2 ^ (w - j)) + d / 2 ^ (w - 1 - j) % 2 := by
  have e : w - j = (w - 1 - j) + 1 := by omega
  rw [e, Nat.pow_succ, ← Nat.div_div_eq_div_mul]; omega
/-- Packed groups: the count, and where there is one, the least number, the width, the bits, and the rest. -/
def pkF (gs : List Nat) : List UInt8 := pkL (btF gs (mnL gs) (wdL gs)) (gs.length * wdL gs)
def pkB (n : Nat) (gs : List Nat) : List UInt8 := if gs.length = 0 then be 4 0 else be 4 gs.length ++ be n (mnL gs) ++ [UInt8.ofNat (wdL gs)] ++ pkF gs
def pacL (n : Nat) (gs : List Nat) (rest : List UInt8) : List UInt8 := pkB n gs ++ rest
end Go.Proofs.YtpbcdmefngbjjaaGreatDoor
namespace Go.Proofs
open Go.Shelf
def Tryz.lays129_ren : Go.Shelf.Ren := ⟨fun | 129 => 65 | n => n, fun | 3 => 3 | 4 => 4 | 5 => 5 | 9 => 9 | 46 => 34 | 53 => 38 | n => n, fun | s => s⟩
theorem Tryz.lays129 : Go.Proofs.Lays.n129 Tryz.prog Tryz.lays129_ren := {
  mixed := by kernel_rfl
  f129 := Tryz.func65.trans (congrArg some (by kernel_rfl))
  t3 := Tryz.underlying3
  a3 := Tryz.isAgg3
  z3 := Tryz.sizeOf3
  v3 := Tryz.zeroValue3
  t4 := Tryz.underlying4
  a4 := Tryz.isAgg4
  z4 := Tryz.sizeOf4
  v4 := Tryz.zeroValue4
  t5 := Tryz.underlying5
  a5 := Tryz.isAgg5
  z5 := Tryz.sizeOf5
  v5 := Tryz.zeroValue5
  t9 := Tryz.underlying9
  a9 := Tryz.isAgg9
  z9 := Tryz.sizeOf9
  v9 := Tryz.zeroValue9
  t46 := Tryz.underlying34
  a46 := Tryz.isAgg34
  z46 := Tryz.sizeOf34
  v46 := Tryz.zeroValue34
  t53 := Tryz.underlying38
  a53 := Tryz.isAgg38
  z53 := Tryz.sizeOf38
  v53 := Tryz.zeroValue38 }
theorem Tryz.len64_any (x : Nat) (w : World) (h : x < 18446744073709551616) : Calls Tryz.prog 65 #[.int .u64 (x : Int)] w fun e w' => e = .returned (.int .i64 (Lib.bitLen x : Int)) ∧ w = w' :=
  (Any.bits_Len64 Tryz.lays129 (x : Int) w (by omega) (by omega)).mono fun e w' ⟨h1, h2⟩ => ⟨by rw [h1, Int.toNat_natCast], h2.symm⟩
end Go.Proofs
namespace Go.Proofs.YtpbcdmefngbjjaaGreatDoor
open Go.RowKit Go.Shelf
open Go.Lib
set_option maxRecDepth 104857600 in
theorem asked_ok_w (p : Option Addr) (k c n : Nat) (w : World) (h1 : 1 ≤ n) (h2 : n ≤ 8) (hk : k ≤ 1048576) : Calls Tryz.prog 34 #[.slice p k c, .int .i64 (n : Int)] w fun e w' => e = .returned (.int .i64 0) ∧ w = w' := by
  have h1' : ¬ (n : Int) < 1 := by omega
  have h2' : ¬ 8 < (n : Int) := by omega
  have hk' : (k : Int) ≤ 1048576 := by omega
  clear h1 h2 hk
  go_enter Tryz.func34, Tryz.ntmps34
  go_wp2_with fail
  go_ret
  exact ⟨rfl, rfl⟩
set_option maxRecDepth 104857600 in
theorem check_ok_w (p : Option Addr) (k c n : Nat) (w : World) (h1 : 1 ≤ n) (h2 : n ≤ 8) (hk : k ≤ 1048576) : Calls Tryz.prog 38 #[.slice p k c, .int .i64 (n : Int)] w fun e w' => e = .returned (.int .i64 0) ∧ w = w' := by
  have H := Lib.hid (size_ok n w h1 h2)
  have hk' : (k : Int) ≤ 1048576 := by omega
  clear h1 h2 hk
  go_enter Tryz.func38, Tryz.ntmps38
  go_wp2_with fail
  refine (H.out).mono ?_
  rintro e w' ⟨rfl, rfl⟩
  go_wp2_with fail
  go_ret
  exact ⟨rfl, rfl⟩
set_option maxRecDepth 104857600 in
set_option maxHeartbeats 1600000 in
theorem groups_some_w (b0 off c n : Nat) (l : List UInt8) (w : World) (h1 : 1 ≤ n) (h2 : n ≤ 8) (hl : l.length ≤ 1048576) (hc : l.length ≤ c) (hb : Bs w (some ⟨b0, off, none⟩) l) :
    Calls Tryz.prog 35 #[.slice (some ⟨b0, off, none⟩) l.length c, .int .i64 (n : Int)] w (GroupsPost (gl n (l.length / n) l) (l.drop (l.length / n * n)) w) := by
  obtain ⟨i0, hi, hz0, hz1, hz2⟩ := info_parts info79
  obtain ⟨k, HK⟩ : ∃ k, Hid (k = l.length / n) := ⟨_, rfl⟩
  have HKN : Hid (k * n ≤ l.length ∧ l.length < k * n + n) := Lib.hid (by
    rw [HK.out]
    have h3 := Nat.div_add_mod l.length n
    have h4 := Nat.mod_lt l.length (show n > 0 by omega)
    rw [Nat.mul_comm] at h3; omega)
  obtain ⟨len, HL⟩ : ∃ len, Hid (len = l.length) := ⟨_, rfl⟩
  have Hb := Lib.hid hb
  rw [← HK.out, ← HL.out]
  rw [← HL.out] at hl hc HKN
  have HG0 : Hid (GrewU w.heap.size w (.slice none 0 0) [] w (.slice none 0 0)) := Lib.hid (GrewU.refl (l := []) (World.ownsRow_nil w w.heap.size 38 1))
  have hn1 : 1 ≤ (n : Int) := by omega
  have hn8 : (n : Int) ≤ 8 := by omega
  have hlen : (len : Int) ≤ 1048576 := by omega
  clear hb
  go_enter Tryz.func35, Tryz.ntmps35
  go_wp2_with fail
  go_loopw [6, 7] (fun vr iv wr => ∃ (i t : Nat), i ≤ k ∧ iv = .int .i64 t ∧ Hid (t = i * n) ∧ Hid (GrewU w.heap.size w (.slice none 0 0) (gl n i l) wr vr)) (fun _ iv _ => len - (intOf iv).toNat)
  case atStart => exact ⟨0, 0, Nat.zero_le _, rfl, Lib.hid (by rw [Nat.zero_mul]), HG0⟩
  case round =>
    obtain ⟨i, t, hik, rfl, HT, HG⟩ := hrel
    by_cases hilt : i < k
    · have htn : t + n ≤ len := by
        have h3 := HKN.out.1
        have h4 : (i + 1) * n ≤ k * n := Nat.mul_le_mul_right _ hilt
        rw [Nat.succ_mul] at h4
        rw [HT.out]; omega
      have htn' : (t : Int) + (n : Int) ≤ (len : Int) := by omega
      have hbw : Hid (Below w.heap.size w wr) := Lib.hid (HG.out.below (Nat.le_refl _) (by intro k hk; cases hk))
      have hsub : Hid (Bs wr (some ⟨b0, off + t, none⟩) ((l.drop t).take n)) := Lib.hid (bs_sub (Hb.out.below hbw.out) t n (by rw [← HL.out]; omega) rfl)
      obtain ⟨s, HS⟩ : ∃ s, Hid (s = (l.drop t).take n) := ⟨_, rfl⟩
      rw [← HS.out] at hsub
      have hsl : s.length = n := by rw [HS.out, List.length_take, List.length_drop, ← HL.out]; omega
      have HR := Lib.hid (bread_any (some ⟨b0, off + t, none⟩) (c - t) s wr (by omega) hsub.out)
      rw [hsl] at HR
      go_wp2_with fail
      obtain ⟨x, HX⟩ : ∃ x : Nat, Hid (x = nb s) := ⟨_, rfl⟩
      rw [← HX.out] at HR
      have hbl : Hid ((gl n i l).length + 1 ≤ maxLen ∧ ((gl n i l).length + 1) * 8 ≤ 140737488355328 ∧ w.heap.size ≤ wr.heap.size + 1) := Lib.hid (by
        have h3 := HG.out.grown.size
        have h4 : i * 1 ≤ i * n := Nat.mul_le_mul_left _ h1
        rw [gl_length]; unfold maxLen
        have h5 := HT.out
        omega)
      refine (HR.out).mono ?_
      rintro e w' ⟨rfl, rfl⟩
      go_wp2_with (at_builtin; refine wpList_append_own_at _ rfl (.tmp 17) (.tmp 25) 42 rfl w.heap.size 38 i0 (.int .u64 0) 1 8 Tryz.underlying42 hi hz0 hz1 hz2 rfl (by decide) _ _ _ rfl ((HG.out.own).alloc _) ⟨_, 0, none⟩ 1 1 [.int .u64 (x : Int)] rfl rfl (cell_one_new _ _ _) (by intro u hu; simp at hu; subst hu; rfl) hbl.out.1 hbl.out.2.1 (by simp; exact hbl.out.2.2) ?_)
      intro v5 w5 hown5 hgrow5 _ hat5
      have HG5 := Lib.hid (HG.out.next rfl hown5 hgrow5 hat5)
      clear hown5 hgrow5 hat5
      go_wp2_with fail
      go_roundw
      case rel => exact ⟨i + 1, t + n, by omega, by go_num, Lib.hid (by rw [HT.out, Nat.succ_mul]), Lib.hid (by rw [gl_snoc, ← HT.out, ← HS.out, ← HX.out]; exact HG5.out)⟩
      case measure => simp [intOf]; omega
    · obtain rfl : i = k := by omega
      have htn : ¬ t + n ≤ len := by rw [HT.out]; have := HKN.out.2; omega
      have htl : t ≤ len := by rw [HT.out]; exact HKN.out.1
      have htn' : ¬ (t : Int) + (n : Int) ≤ (len : Int) := by omega
      have hbw : Hid (Below w.heap.size w wr) := Lib.hid (HG.out.below (Nat.le_refl _) (by intro k hk; cases hk))
      have Hb2 := Lib.hid (Hb.out.below hbw.out)
      obtain ⟨qo, co, rfl, hrd, -⟩ := own_rd64 HG.out.own
      have HRD := Lib.hid hrd
      obtain ⟨X, HXX⟩ : ∃ X, Hid (X = gl n i l) := ⟨_, rfl⟩
      have hXl : X.length = i := by rw [HXX.out, gl_length]
      rw [← HXX.out, hXl] at HRD
      rw [← HXX.out, hXl]
      clear hrd
      have hmul : (i : Int) * (n : Int) = (t : Int) := by rw [HT.out]; simp
      have hrl : (l.drop t).length = len - t := by rw [List.length_drop, HL.out]
      have hfin : Hid (∀ nq q d, Bs wr q (l.drop t) → GroupsPost (gl n i l) (l.drop (i * n)) w (.returned (.tuple #[.slice qo i co, .slice q (len - t) d])) (wr.drewN nq)) := Lib.hid (fun nq q d hq => by
        refine ⟨below_dn hbw.out _, qo, co, q, d, ?_, ?_, ?_⟩
        · rw [← HT.out, hrl, gl_length]
        · rw [gl_length, ← HXX.out]; exact HRD.out.below (below_dn (Below.refl _ _) _)
        · rw [← HT.out]; exact hq.below (below_dn (Below.refl _ _) _))
      clear hrl
      by_cases hct : c = t
      · subst hct
        obtain rfl : len = c := by omega
        have hq : Hid (Bs wr (some ⟨b0, off, none⟩) (l.drop len)) := Lib.hid (.inl (by rw [HL.out, List.drop_length]; rfl))
        go_wp2_with fail
        go_quiet (fail)
        clear hmul
        go_wp2_with fail
        go_ret2
        have h := fun nq => hfin.out nq _ 0 hq.out
        simp only [Nat.sub_self] at h
        exact h _
      · have hct' : t < c := by omega
        have hq : Hid (Bs wr (some ⟨b0, off + t, none⟩) (l.drop t)) := Lib.hid (bs_tail Hb2.out t (by rw [← HL.out]; exact htl) rfl)
        go_wp2_with fail
        go_quiet (fail)
        clear hmul
        go_wp2_with fail
        go_ret2
        exact hfin.out _ _ _ hq.out
theorem groups_any_w (p : Option Addr) (c n : Nat) (l : List UInt8) (w : World) (h1 : 1 ≤ n) (h2 : n ≤ 8) (hl : l.length ≤ 1048576) (hc : l.length ≤ c) (hpc : p = none → c = 0) (hb : Bs w p l) :
    Calls Tryz.prog 35 #[.slice p l.length c, .int .i64 (n : Int)] w (GroupsPost (gl n (l.length / n) l) (l.drop (l.length / n * n)) w) := by
  rcases hb with h0 | ⟨b, off, rfl, h3, h4⟩
  · obtain rfl := List.eq_nil_of_length_eq_zero h0
    have e : ([] : List UInt8).length / n = 0 := Nat.zero_div n
    rw [e, Nat.zero_mul]
    exact groups_nil p c n w h1 h2 hpc
  · exact groups_some_w b off c n l w h1 h2 hl hc (.inr ⟨b, off, rfl, h3, h4⟩)
attribute [local go_sem] Oper.semAt_some
set_option maxRecDepth 104857600 in
set_option maxHeartbeats 2000000 in
theorem it79_in_w (m : Nat) (hm : 1 ≤ m) (lr Bn Bb N0 n len k c : Nat) (l : List UInt8) (p : Option Addr) (HL : Hid (len = l.length)) (HK : Hid (k = len / n)) (hn1 : 1 ≤ n) (hn2 : n ≤ 8) (hlen : len ≤ 1048576) (hc : len ≤ c) (J Jx : List (Pl k) → World → Prop)
    (hY : ∀ pre x W, J pre W → pre.length < k → YieldAt Fence.wide (m - 1) Tryz.prog lr (nbE l n k x) W fun e W' =>
      (e = .returned (.bool true) ∧ J (pre ++ [x]) W' ∧ Keep3 N0 Bn Bb W W') ∨ (e = .returned (.bool false) ∧ Jx (pre ++ [x]) W'))
    (W : World) (hN : N0 ≤ W.heap.size) (hBn : W.cell? ⟨Bn, 0, none⟩ = some (.int .i64 (n : Int))) (hBb : W.cell? ⟨Bb, 0, none⟩ = some (.slice p len c)) (hbs : BsN N0 W p l) (h0 : J [] W) :
    CallsIn Fence.wide m Tryz.prog 79 #[.func (.yield lr) #[] #[], .pointer (some ⟨Bn, 0, none⟩), .pointer (some ⟨Bb, 0, none⟩)] W fun e W' => (∃ v, e = .returned v) ∧
      ((∃ ys, ys.map (·.1) = List.range k ∧ J ys W') ∨ (∃ pre, True ∧ Jx pre W')) := by
  have hni : 1 ≤ (n : Int) := by omega
  have hni2 : (n : Int) ≤ 8 := by omega
  have hli : (len : Int) ≤ 1048576 := by omega
  have HKN : Hid (k * n ≤ len ∧ len < k * n + n) := Lib.hid (by
    rw [HK.out]
    have h3 := Nat.div_add_mod len n
    have h4 := Nat.mod_lt len (show n > 0 by omega)
    rw [Nat.mul_comm] at h3; omega)
  have HBS := Lib.hid hbs
  clear hbs
  refine callsIn_of_wp Tryz.func79 rfl trivial ?_ rfl
  simp only [Tryz.ntmps79, List.size_toArray, List.length_cons, List.length_nil, Nat.reduceAdd, Nat.reduceSub, Array.replicate_succ, Array.replicate_zero, List.push_toArray, List.append_toArray, List.nil_append, List.cons_append]
  gi_wp2
  have HJ0 := Lib.hid h0
  gi_loopw [4] (fun tv wr => ∃ (t i : Nat) (pre : List (Pl k)), i ≤ k ∧ tv = .int .i64 t ∧ Hid (t = i * n) ∧ Hid (pre.map (·.1) = List.range i) ∧ Hid (J pre wr) ∧ Hid (Keep3 N0 Bn Bb W wr)) (fun tv _ => len - (intOf tv).toNat)
  case atStart => exact ⟨0, 0, [], Nat.zero_le _, rfl, Lib.hid (by rw [Nat.zero_mul]), rfl, HJ0, Lib.hid (Keep3.refl _ _ _ _)⟩
  case round =>
    obtain ⟨t, i, pre, hik, rfl, HT, HP, HJ, HB⟩ := hrel
    have hcn := HB.out.c1.trans hBn
    have hcb := HB.out.c2.trans hBb
    by_cases hilt : i < k
    · have htn : t + n ≤ len := by
        have h3 := HKN.out.1
        have h4 : (i + 1) * n ≤ k * n := Nat.mul_le_mul_right _ hilt
        rw [Nat.succ_mul] at h4
        rw [HT.out]; omega
      have htn' : (t : Int) + (n : Int) ≤ (len : Int) := by omega
      have hbs1 := (HBS.out.keep HB.out.1).bs (Nat.le_trans hN HB.out.1.size)
      obtain ⟨b0, off, rfl, -, -⟩ := at_cell hbs1 (t := 0) (by rw [← HL.out]; omega)
      have hsub : Hid (Bs wr (some ⟨b0, off + t, none⟩) ((l.drop t).take n)) := Lib.hid (bs_sub hbs1 t n (by rw [← HL.out]; omega) rfl)
      obtain ⟨s, HS⟩ : ∃ s, Hid (s = (l.drop t).take n) := ⟨_, rfl⟩
      rw [← HS.out] at hsub
      have hsl : s.length = n := by rw [HS.out, List.length_take, List.length_drop, ← HL.out]; omega
      have HR := Lib.hid (bnumber_any (some ⟨b0, off + t, none⟩) (c - t) s wr (by omega) hsub.out)
      rw [hsl] at HR
      obtain ⟨x, HX⟩ : ∃ x : Nat, Hid (x = nb s) := ⟨_, rfl⟩
      rw [← HX.out] at HR
      obtain ⟨fn, tmps, assign, body, hy, hRo⟩ := hY pre ⟨i, hilt⟩ wr HJ.out (by
        have h := congrArg List.length HP.out
        rw [List.length_map, List.length_range] at h; omega)
      have hy2 : (Instr.yield lr #[.int .u64 (x : Int)]).run Tryz.prog wr = .ok (.round lr fn tmps assign body) wr := by
        rw [HX.out, HS.out, HT.out]; exact hy
      clear hy hbs1 hsl
      gi_wp2_with (refine ⟨trivial, ?_⟩; gi_at_call 68; refine (callsIn_wide.2 HR.out).mono ?_; rintro e w' ⟨rfl, rfl⟩)
      refine hRo.mono ?_
      rintro e W3 (⟨rfl, hJ3, hk3⟩ | ⟨rfl, hJx3⟩)
      · have HB3 := Lib.hid (HB.out.trans hk3)
        have HJ3 := Lib.hid hJ3
        have hcn3 := HB3.out.c1.trans hBn
        clear hJ3 hk3 hy2
        gi_wp2
        go_roundw
        case rel => exact ⟨t + n, i + 1, pre ++ [⟨i, hilt⟩], by omega, by go_num, Lib.hid (by rw [HT.out, Nat.succ_mul]), Lib.hid (by rw [List.map_append, HP.out, List.range_succ]; rfl), HJ3, HB3⟩
        case measure => simp [intOf]; omega
      · gi_wp2
        refine bodyPost_ret (results_none rfl _ _ _) rfl ?_
        exact ⟨⟨_, rfl⟩, .inr ⟨_, trivial, hJx3⟩⟩
    · obtain rfl : i = k := by omega
      have htn' : ¬ (t : Int) + (n : Int) ≤ (len : Int) := by rw [HT.out]; have := HKN.out.2; omega
      have htl : t ≤ len := by rw [HT.out]; exact HKN.out.1
      have hti : (t : Int) ≤ 1048576 := by omega
      gi_wp2
      go_end0
      exact ⟨⟨_, rfl⟩, .inl ⟨pre, HP.out, HJ.out⟩⟩
theorem numbers_stops_w (m : Nat) (hm : 1 ≤ m) (Bn Bb N0 n len k c : Nat) (l : List UInt8) (p : Option Addr) (HL : Hid (len = l.length)) (HK : Hid (k = len / n)) (hn1 : 1 ≤ n) (hn2 : n ≤ 8) (hlen : len ≤ 1048576) (hc : len ≤ c) (w : World) (hN : N0 ≤ w.heap.size) (hB1 : Bn < w.heap.size) (hB2 : Bb < w.heap.size)
    (hBn : w.cell? ⟨Bn, 0, none⟩ = some (.int .i64 (n : Int))) (hBb : w.cell? ⟨Bb, 0, none⟩ = some (.slice p len c)) (hbs : BsN N0 w p l) :
    SeqStopsK Fence.wide m Tryz.prog 79 #[.pointer (some ⟨Bn, 0, none⟩), .pointer (some ⟨Bb, 0, none⟩)] (nbE l n k) (Keep3 N0 Bn Bb) (fun ys => ys.map (·.1) = List.range k) (fun _ => True) k w := fun lr J Jx W hW _ _ hY h0 =>
  it79_in_w m hm lr Bn Bb N0 n len k c l p HL HK hn1 hn2 hlen hc J Jx hY W (Nat.le_trans hN hW.size) ((hW.cell (p := ⟨Bn, 0, none⟩) hB1).trans hBn) ((hW.cell (p := ⟨Bb, 0, none⟩) hB2).trans hBb) (hbs.keep (hW.mono hN)) h0
set_option maxRecDepth 104857600 in
set_option maxHeartbeats 1600000 in
theorem rest_some_w (b0 off c n t len : Nat) (l : List UInt8) (w : World) (h1 : 1 ≤ n) (h2 : n ≤ 8) (HL : Hid (len = l.length)) (hl : len ≤ 1048576) (hc : len ≤ c) (HT : Hid (t = len / n * n)) (hb : Bs w (some ⟨b0, off, none⟩) l) :
    Calls Tryz.prog 43 #[.slice (some ⟨b0, off, none⟩) len c, .int .i64 (n : Int)] w (RestPost (l.drop t) (len - t) w) := by
  have hn1 : 1 ≤ (n : Int) := by omega
  have hn8 : (n : Int) ≤ 8 := by omega
  have hlen : (len : Int) ≤ 1048576 := by omega
  have htl : t ≤ len := by rw [HT.out]; exact Nat.div_mul_le_self _ _
  have hend : wrap64 ((len : Int) - (len : Int) % (n : Int)) = (t : Int) := by
    have h3 := Nat.div_add_mod len n
    rw [Nat.mul_comm, ← HT.out] at h3
    have h4 : (len : Int) - (len : Int) % (n : Int) = (t : Int) := by omega
    rw [h4]
    unfold wrap64; omega
  have HB := Lib.hid hb
  clear hb
  by_cases hct : c = t
  · subst hct
    obtain rfl : len = c := by omega
    go_enter Tryz.func43, Tryz.ntmps43
    go_wp2_with fail
    rw [hend]
    go_wp2_with fail
    go_ret
    exact ⟨rfl, some ⟨b0, off, none⟩, 0, by simp, .inl (by rw [HL.out, List.drop_length]; rfl)⟩
  · have hct' : t < c := by omega
    go_enter Tryz.func43, Tryz.ntmps43
    go_wp2_with fail
    rw [hend]
    go_wp2_with fail
    go_ret
    exact ⟨rfl, _, _, rfl, bs_tail HB.out t (by rw [← HL.out]; exact htl) rfl⟩
theorem rest_any_w (p : Option Addr) (c n t len : Nat) (l : List UInt8) (w : World) (h1 : 1 ≤ n) (h2 : n ≤ 8) (HL : Hid (len = l.length)) (hl : len ≤ 1048576) (hc : len ≤ c) (hpc : p = none → c = 0) (HT : Hid (t = len / n * n)) (hb : Bs w p l) :
    Calls Tryz.prog 43 #[.slice p len c, .int .i64 (n : Int)] w (RestPost (l.drop t) (len - t) w) := by
  rcases hb with h0 | ⟨b, off, rfl, h3, h4⟩
  · obtain rfl := List.eq_nil_of_length_eq_zero h0
    obtain rfl : len = 0 := HL.out
    obtain rfl : t = 0 := by rw [HT.out, Nat.zero_div, Nat.zero_mul]
    exact rest_nil p c n w h1 h2 hpc
  · exact rest_some_w b off c n t len l w h1 h2 HL hl hc HT (.inr ⟨b, off, rfl, h3, h4⟩)
end Go.Proofs.YtpbcdmefngbjjaaGreatDoor
namespace Go.Proofs.YtpbcdmefngbjjaaGreatDoor
open Go.RowKit Go.Shelf
open Go.Lib
attribute [local go_sem] Oper.semAt_some
/-- What lies in the memory between two rounds: the boxes of the least and of the greatest number, and those of the iterator. -/
structure SpI (N n : Nat) (p : Option Addr) (len c : Nat) (w : World) (a z : Nat) (W : World) : Prop where
  b6 : W.heap[N]? = some (.cells #[.int .u64 (a : Int)] 38 (0, 0))
  b7 : W.heap[N + 1]? = some (.cells #[.int .u64 (z : Int)] 38 (0, 0))
  i1 : W.heap[N + 1 + 1]? = some (.cells #[.slice p len c] 22 (0, 0))
  i2 : W.heap[N + 1 + 1 + 1]? = some (.cells #[.int .i64 (n : Int)] 3 (0, 0))
  bel : Below N w W
section
variable {N n : Nat} {p : Option Addr} {len c : Nat} {w W W' : World} {a z : Nat}
theorem SpI.keep (h : SpI N n p len c w a z W) {row : Option Nat} (hg : W.grownBy W' row) (hr : ∀ r, row = some r → N ≤ r ∧ ∃ o : Obj, W.heap[r]? = some o ∧ o.isCells = false) (hB : N ≤ W.heap.size) : SpI N n p len c w a z W' := by
  have hk : ∀ {k : Nat} {o : Obj}, W.heap[k]? = some o → o.isCells = true → W'.heap[k]? = some o := fun h1 h2 => (grownBy_keeps_cells hg (fun r e => (hr r e).2) h1 h2).trans h1
  exact ⟨hk h.b6 rfl, hk h.b7 rfl, hk h.i1 rfl, hk h.i2 rfl, h.bel.grown hg hB (fun k e => (hr k e).1)⟩
theorem SpI.lt (h : SpI N n p len c w a z W) : N ≤ W.heap.size := Nat.le_of_lt (Array.getElem?_eq_some_iff.1 h.b6).1
theorem SpI.put6 (h : SpI N n p len c w a z W) (a' : Nat) : SpI N n p len c w a' z (W.setCell ⟨N, 0, none⟩ (.int .u64 (a' : Int))) := by
  have hk : ∀ {k : Nat} {o : Obj}, k ≠ N → W.heap[k]? = some o → (W.setCell ⟨N, 0, none⟩ (.int .u64 (a' : Int))).heap[k]? = some o := fun hne h1 => (Below.heap_setCell W ⟨N, 0, none⟩ _ _ hne).trans h1
  exact ⟨block_of_set h.b6, hk (by omega) h.b7, hk (by omega) h.i1, hk (by omega) h.i2, h.bel.setCell (p := ⟨N, 0, none⟩) (Nat.le_refl _) _⟩
theorem SpI.put7 (h : SpI N n p len c w a z W) (z' : Nat) : SpI N n p len c w a z' (W.setCell ⟨N + 1, 0, none⟩ (.int .u64 (z' : Int))) := by
  have hk : ∀ {k : Nat} {o : Obj}, k ≠ N + 1 → W.heap[k]? = some o → (W.setCell ⟨N + 1, 0, none⟩ (.int .u64 (z' : Int))).heap[k]? = some o := fun hne h1 => (Below.heap_setCell W ⟨N + 1, 0, none⟩ _ _ hne).trans h1
  exact ⟨hk (by omega) h.b6, block_of_set h.b7, hk (by omega) h.i1, hk (by omega) h.i2, h.bel.setCell (p := ⟨N + 1, 0, none⟩) (by simp) _⟩
end
def SpanPost (gs : List Nat) (w : World) (e : Ending) (w' : World) : Prop := Below w.heap.size w w' ∧ e = .returned (.tuple #[.int .u64 (mnL gs : Int), .int .i64 (wdL gs : Int)])
set_option maxRecDepth 100000 in
set_option maxHeartbeats 4000000 in
theorem span_any (p : Option Addr) (c n len k : Nat) (l : List UInt8) (w : World) (HL : Hid (len = l.length)) (HK : Hid (k = len / n)) (h1 : 1 ≤ n) (h2 : n ≤ 8) (hl : len ≤ 1048576) (hc : len ≤ c) (hk0 : 0 < k) (hbs : Bs w p l) :
    Calls Tryz.prog 41 #[.slice p len c, .int .i64 (n : Int)] w (SpanPost (gl n k l) w) := by
  have HBS : Hid (BsN w.heap.size w p l) := Lib.hid hbs.bsN
  obtain ⟨gs, HGS⟩ : ∃ gs, Hid (gs = gl n k l) := ⟨_, rfl⟩
  have HGL : Hid (gs ≠ [] ∧ ∀ g ∈ gs, g < W64) := Lib.hid (by
    rw [HGS.out]
    exact ⟨fun e => by rw [← List.length_eq_zero_iff, gl_length] at e; omega, gl_lt h2 k l⟩)
  rw [← HGS.out]
  clear hbs
  refine (callsIn_wide (n := 9)).1 ?_
  refine callsIn_of_wp_marks Tryz.func41 rfl trivial ?_ rfl
  simp only [Tryz.ntmps41, List.size_toArray, List.length_cons, List.length_nil, Nat.reduceAdd, Nat.reduceSub, Array.replicate_succ, Array.replicate_zero, List.push_toArray, List.append_toArray, List.nil_append, List.cons_append]
  gi_wp2_with (refine ⟨trivial, ?_⟩; gi_at_call 60; refine (numbers_in _ _ _ _ _ _).mono ?_; rintro e w' ⟨rfl, rfl⟩)
  obtain ⟨W0, hW0⟩ : ∃ W0, ((((w.alloc (.cells #[.int .u64 18446744073709551615] 38)).alloc (.cells #[.int .u64 0] 38)).alloc (.cells #[.slice p len c] 22)).alloc (.cells #[.int .i64 (n : Int)] 3)) = W0 := ⟨_, rfl⟩
  have hs0 : W0.heap.size = w.heap.size + 4 := by rw [← hW0]; simp
  have hI0 : SpI w.heap.size n p len c w 18446744073709551615 0 W0 := by
    rw [← hW0]
    refine ⟨?_, ?_, ?_, ?_, ((((Below.refl _ w).alloc (Nat.le_refl _) _).alloc (by simp) _).alloc (by simp <;> omega) _).alloc (by simp <;> omega) _⟩
    · exact (Below.heap_alloc _ _ _ (by simp <;> omega)).trans ((Below.heap_alloc _ _ _ (by simp <;> omega)).trans ((Below.heap_alloc _ _ _ (by simp)).trans (World.alloc_heap_new w _)))
    · refine (Below.heap_alloc _ _ _ (by simp <;> omega)).trans ((Below.heap_alloc _ _ _ (by simp)).trans ?_)
      have := World.alloc_heap_new (w.alloc (.cells #[.int .u64 18446744073709551615] 38)) (.cells #[.int .u64 0] 38); rwa [World.size_alloc] at this
    · refine (Below.heap_alloc _ _ _ (by simp)).trans ?_
      have := World.alloc_heap_new ((w.alloc (.cells #[.int .u64 18446744073709551615] 38)).alloc (.cells #[.int .u64 0] 38)) (.cells #[.slice p len c] 22); rwa [World.size_alloc, World.size_alloc] at this
    · have := World.alloc_heap_new (((w.alloc (.cells #[.int .u64 18446744073709551615] 38)).alloc (.cells #[.int .u64 0] 38)).alloc (.cells #[.slice p len c] 22)) (.cells #[.int .i64 (n : Int)] 3); rwa [World.size_alloc, World.size_alloc, World.size_alloc] at this
  rw [hW0]
  refine wpIn_rangeFunc_ownF rfl (by omega) (gf := 79) (lb := #[.pointer (some ⟨w.heap.size + 1 + 1 + 1, 0, none⟩), .pointer (some ⟨w.heap.size + 1 + 1, 0, none⟩)]) rfl trivial (enters_of Tryz.func79 (by kernel_rfl) rfl)
    (numbers_stops_w _ (by omega) (w.heap.size + 1 + 1 + 1) (w.heap.size + 1 + 1) w.heap.size n len k c l p HL HK h1 h2 hl hc W0 (by omega) (by omega) (by omega) (by simp [World.cell?, hI0.i2]) (by simp [World.cell?, hI0.i1]) (HBS.out.keep hI0.bel)) Keep3.trans
    (fun W lo o o' hlo ho hc hw => ⟨(Below.refl _ W).grown (grownBy_putObj' W lo o') (by have := (Array.getElem?_eq_some_iff.1 ho).1; omega) (fun k e => by cases e; omega), World.putObj_heap_other (by omega), World.putObj_heap_other (by omega)⟩) (Below.refl _ _) (fun _ => rfl)
    (fun pre W => SpI w.heap.size n p len c w ((gP l n pre).foldl min 18446744073709551615) ((gP l n pre).foldl max 0) W)
    (fun _ _ _ => False)
    (fun s W W' row h hg hr => h.keep hg (fun r e => ⟨by have := (hr r e).1; omega, (hr r e).2⟩) h.lt)
    (fun _ _ _ _ _ h _ _ => h)
    hI0 ?a1 ?assign ?body ?done ?stop
  case assign =>
    intro lo x W K hK
    gi_wp2
    exact hK
  case body =>
    intro lo pre x W hI hlen
    obtain ⟨a, HA⟩ : ∃ a, Hid (a = (gP l n pre).foldl min 18446744073709551615) := ⟨_, rfl⟩
    obtain ⟨z, HZ⟩ : ∃ z, Hid (z = (gP l n pre).foldl max 0) := ⟨_, rfl⟩
    rw [← HA.out, ← HZ.out] at hI
    obtain ⟨g, HG⟩ : ∃ g, Hid (g = gN l n x.1) := ⟨_, rfl⟩
    obtain ⟨a2, HA2⟩ : ∃ a2, Hid (a2 = min a g) := ⟨_, rfl⟩
    obtain ⟨z2, HZ2⟩ : ∃ z2, Hid (z2 = max z g) := ⟨_, rfl⟩
    have e10 : (nb ((l.drop (x.1 * n)).take n)) = g := HG.out.symm
    have hmin : min (a : Int) (g : Int) = (a2 : Int) := by rw [HA2.out]; omega
    have hmax : max (z : Int) (g : Int) = (z2 : Int) := by rw [HZ2.out]; omega
    have c6 : W.cell? ⟨w.heap.size, 0, none⟩ = some (.int .u64 (a : Int)) := by simp [World.cell?, hI.b6]
    have f6 : W.frozen? ⟨w.heap.size, 0, none⟩ = false := by simp [World.frozen?, hI.b6]
    have hI1 := hI.put6 a2
    have hI2 := hI1.put7 z2
    have hF : KeepsOthers W ((W.setCell ⟨w.heap.size, 0, none⟩ (.int .u64 (a2 : Int))).setCell ⟨w.heap.size + 1, 0, none⟩ (.int .u64 (z2 : Int))) ∧ Keep3 w.heap.size (w.heap.size + 1 + 1 + 1) (w.heap.size + 1 + 1) W ((W.setCell ⟨w.heap.size, 0, none⟩ (.int .u64 (a2 : Int))).setCell ⟨w.heap.size + 1, 0, none⟩ (.int .u64 (z2 : Int))) ∧
        SpI w.heap.size n p len c w ((gP l n (pre ++ [x])).foldl min 18446744073709551615) ((gP l n (pre ++ [x])).foldl max 0) ((W.setCell ⟨w.heap.size, 0, none⟩ (.int .u64 (a2 : Int))).setCell ⟨w.heap.size + 1, 0, none⟩ (.int .u64 (z2 : Int))) := by
      refine ⟨(KeepsOthers.setCell _ _ _).trans (KeepsOthers.setCell _ _ _), ⟨((Below.refl _ W).setCell (p := ⟨w.heap.size, 0, none⟩) (Nat.le_refl _) _).setCell (p := ⟨w.heap.size + 1, 0, none⟩) (by simp) _, hI2.i2.trans hI.i2.symm, hI2.i1.trans hI.i1.symm⟩, ?_⟩
      rw [gP_snoc, List.foldl_append, List.foldl_append, ← HA.out, ← HZ.out, ← HG.out]
      show SpI _ _ _ _ _ _ (min a g) (max z g) _
      rw [← HA2.out, ← HZ2.out]
      exact hI2
    have HFh := Lib.hid hF
    obtain ⟨W1, hW1⟩ : ∃ W1, W.setCell ⟨w.heap.size, 0, none⟩ (.int .u64 (a2 : Int)) = W1 := ⟨_, rfl⟩
    rw [hW1] at hI1 HFh
    have c7 : W1.cell? ⟨w.heap.size + 1, 0, none⟩ = some (.int .u64 (z : Int)) := by simp [World.cell?, hI1.b7]
    have f7 : W1.frozen? ⟨w.heap.size + 1, 0, none⟩ = false := by simp [World.frozen?, hI1.b7]
    simp only [e10]
    clear hF hI hI1 hI2 e10
    gi_wp2
    exact HFh.out
  case done =>
    intro D xs W hD hxs hI hK
    rw [gP_all l n xs hxs, ← HGS.out] at hI
    have hI' : SpI w.heap.size n p len c w (mnL gs) (mxL gs) W := hI
    obtain ⟨a, HA⟩ : ∃ a, Hid (a = mnL gs) := ⟨_, rfl⟩
    obtain ⟨z, HZ⟩ : ∃ z, Hid (z = mxL gs) := ⟨_, rfl⟩
    obtain ⟨d, HD⟩ : ∃ d, Hid (d = z - a) := ⟨_, rfl⟩
    have hfin : Hid (∀ W5 : World, W5 = W.drew → (W5.putObj D (.deferred none) = W5.putObj D (.deferred none) ∧ SpanPost gs w (.returned (.tuple #[.int .u64 (a : Int), .int .i64 (Lib.bitLen d : Int)])) (W5.putObj D (.deferred none)))) := Lib.hid (fun W5 h5 => ⟨rfl, by
      rw [h5]; exact hI'.bel.drew.trans ((Below.refl _ _).grown (grownBy_putObj' W.drew D _) hI'.lt (fun k e => by cases e; omega)), by rw [HA.out, HD.out, HA.out, HZ.out]; rfl⟩)
    rw [← HA.out, ← HZ.out] at hI'
    have hsub : IntKind.u64.wrap ((z : Int) - (a : Int)) = (d : Int) := by
      have q1 := mnL_mxL HGL.out.1
      have q2 := mxL_lt HGL.out.2
      rw [← HA.out, ← HZ.out] at q1
      rw [← HZ.out] at q2
      rw [IntKind.wrap_u64, HD.out]; unfold W64 at q2; omega
    have HC := Lib.hid (Tryz.len64_any d W.drew (by
      have q2 := mxL_lt HGL.out.2
      rw [← HZ.out] at q2
      rw [HD.out]; unfold W64 at q2; omega))
    have c6 : W.drew.cell? ⟨w.heap.size, 0, none⟩ = some (.int .u64 (a : Int)) := by show W.cell? _ = _; simp [World.cell?, hI'.b6]
    have c7 : W.drew.cell? ⟨w.heap.size + 1, 0, none⟩ = some (.int .u64 (z : Int)) := by show W.cell? _ = _; simp [World.cell?, hI'.b7]
    have hKD : W.drew.heap[D]? = some (.deferred (some [])) := hK
    clear hI hI'
    gi_wp2
    refine wpIn_wide.2 ?_
    refine wp_region_noPanic ?_
    refine wp_region_held_drew (S := fun W' => W'.cell? ⟨w.heap.size, 0, none⟩ = some (.int .u64 (a : Int)) ∧ W'.cell? ⟨w.heap.size + 1, 0, none⟩ = some (.int .u64 (z : Int))) (by kernel_rfl) ⟨c6, c7⟩ (fun hHeld => ?_)
    refine wpAnyH_take (i := 0) (v := .int .u64 (a : Int)) rfl (by kernel_rfl) (by kernel_rfl) (by kernel_rfl) (fun _ _ _ h => h) (Or.inl ⟨by rfl, by intro W' hSw; obtain ⟨e6, e7⟩ := hSw; go_simp⟩) (by assumption) ?_
    simp only [List.getElem_toArray, List.getElem_cons_zero, Act.put, List.setIfInBounds_toArray, List.set_cons_zero, List.set_cons_succ]
    refine wpAnyH_take (i := 1) (v := .int .u64 (z : Int)) rfl (by kernel_rfl) (by kernel_rfl) (by kernel_rfl) (fun _ _ _ h => h) (Or.inl ⟨by rfl, by intro W' hSw; obtain ⟨e6, e7⟩ := hSw; go_simp⟩) (by assumption) ?_
    simp only [List.getElem_toArray, List.getElem_cons_zero, List.getElem_cons_succ, Act.put, List.setIfInBounds_toArray, List.set_cons_zero, List.set_cons_succ]
    refine wpAnyH_take (i := 2) (v := .int .u64 (a : Int)) rfl (by kernel_rfl) (by kernel_rfl) (by kernel_rfl) (fun _ _ _ h => h) (Or.inl ⟨by rfl, by intro W' hSw; obtain ⟨e6, e7⟩ := hSw; go_simp⟩) (by assumption) ?_
    simp only [List.getElem_toArray, List.getElem_cons_zero, List.getElem_cons_succ, Act.put, List.setIfInBounds_toArray, List.set_cons_zero, List.set_cons_succ]
    refine wpAnyH_take (i := 3) (v := .int .u64 (d : Int)) rfl (by kernel_rfl) (by kernel_rfl) (by kernel_rfl) (fun _ _ _ h => h) (Or.inl ⟨by rfl, by intro W' hSw; obtain ⟨e6, e7⟩ := hSw; go_simp⟩) (by assumption) ?_
    simp only [List.getElem_toArray, List.getElem_cons_zero, List.getElem_cons_succ, Act.put, List.setIfInBounds_toArray, List.set_cons_zero, List.set_cons_succ]
    refine wpAnyH_ready (rs := [4]) (by kernel_rfl) (by simp) ?_
    refine AllReadyH.cons (i := 4) rfl (fun K hK => ?_) AllReadyH.nil
    go_simp
    refine (HC.out).mono ?_
    rintro e W' ⟨rfl, rfl⟩
    refine hK.out _ _ (⟨c6, c7⟩) (fun hHeld => ?_)
    clear hK K
    refine wpAnyH_ready (rs := [5]) (by kernel_rfl) (by simp) ?_
    refine AllReadyH.cons (i := 5) rfl (fun K hK => ?_) AllReadyH.nil
    go_simp
    refine hK.out _ _ (⟨c6, c7⟩) (fun hHeld => ?_)
    clear hK K
    refine wpAnyH_ready (rs := [6]) (by kernel_rfl) (by simp) ?_
    refine AllReadyH.cons (i := 6) rfl (fun K hK => ?_) AllReadyH.nil
    go_simp
    refine hK.out _ _ (⟨c6, c7⟩) (fun hHeld => ?_)
    clear hK K
    refine wpAnyH_done (by kernel_rfl) ?_ _
    refine NoPanic.normal ?_
    gi_wp2
    refine ⟨by simp, .inl ⟨_, _, rfl, run_takeDeferred hKD, ?_⟩⟩
    refine ⟨_, ?_, (hfin.out _ rfl).2⟩
    simp [results, Tryz.f41, go_sem]
  case stop =>
    rintro D c pre W hD _ h
    exact h.elim
end Go.Proofs.YtpbcdmefngbjjaaGreatDoor
namespace Go.Proofs.YtpbcdmefngbjjaaGreatDoor
open Go.RowKit Go.Shelf
open Go.Lib
attribute [local go_sem] Oper.semAt_some
theorem pkL_congr {b b' : Nat → Nat} {T : Nat} (h : ∀ t, t < T → b t = b' t) : pkL b T = pkL b' T := by
  have hv : ∀ q r, 8 * q + r ≤ T → bv b q r = bv b' q r := by
    intro q r
    induction r with
    | zero => intro _; rfl
    | succ r ih => intro hr; rw [bv, bv, ih (by omega), h (8 * q + r) (by omega)]
  unfold pkL
  refine List.map_congr_left fun q hq => ?_
  rw [List.mem_range] at hq
  rw [hv q _ (by omega)]
theorem btF_append {gs : List Nat} {g m w t : Nat} (h : t < gs.length * w) : btF (gs ++ [g]) m w t = btF gs m w t := by
  have hw : 0 < w := by
    rcases Nat.eq_zero_or_pos w with h0 | h0
    · rw [h0, Nat.mul_zero] at h; omega
    · exact h0
  have h1 : t / w < gs.length := (Nat.div_lt_iff_lt_mul hw).2 h
  rw [btF, btF, List.getD_eq_getElem?_getD, List.getD_eq_getElem?_getD, List.getElem?_append_left h1]
/-- What lies in the memory between two bits: the row, the boxes of the least number, of the width, of the row and of the count, and those of the iterator. -/
structure PkI (N n : Nat) (p : Option Addr) (len c m wd : Nat) (w : World) (v : Value) (L : List UInt8) (T : Nat) (W : World) : Prop where
  own : W.ownsRow N 5 1 v L.length (u8s L)
  b6 : W.heap[N]? = some (.cells #[.int .u64 (m : Int)] 38 (0, 0))
  b7 : W.heap[N + 1]? = some (.cells #[.int .i64 (wd : Int)] 3 (0, 0))
  out : W.heap[N + 1 + 1]? = some (.cells #[v] 22 (0, 0))
  b10 : W.heap[N + 1 + 1 + 1]? = some (.cells #[.int .i64 (T : Int)] 3 (0, 0))
  i1 : W.heap[N + 1 + 1 + 1 + 1]? = some (.cells #[.slice p len c] 22 (0, 0))
  i2 : W.heap[N + 1 + 1 + 1 + 1 + 1]? = some (.cells #[.int .i64 (n : Int)] 3 (0, 0))
  bel : Below N w W
section
variable {N n : Nat} {p : Option Addr} {len c m wd : Nat} {w W W' : World} {v v' : Value} {L L' : List UInt8} {T T' : Nat}
theorem PkI.keep (h : PkI N n p len c m wd w v L T W) {row : Option Nat} (hg : W.grownBy W' row) (hr : ∀ r, row = some r → N ≤ r ∧ ∃ o : Obj, W.heap[r]? = some o ∧ o.isCells = false) (hB : N ≤ W.heap.size) : PkI N n p len c m wd w v L T W' := by
  have hk : ∀ {k : Nat} {o : Obj}, W.heap[k]? = some o → o.isCells = true → W'.heap[k]? = some o := fun h1 h2 => (grownBy_keeps_cells hg (fun r e => (hr r e).2) h1 h2).trans h1
  exact ⟨own_keep h.own (fun k cs h1 => hk h1 rfl), hk h.b6 rfl, hk h.b7 rfl, hk h.out rfl, hk h.b10 rfl, hk h.i1 rfl, hk h.i2 rfl, h.bel.grown hg hB (fun k e => (hr k e).1)⟩
theorem PkI.lt (h : PkI N n p len c m wd w v L T W) : N ≤ W.heap.size := Nat.le_of_lt (Array.getElem?_eq_some_iff.1 h.b6).1
theorem PkI.drew (h : PkI N n p len c m wd w v L T W) : PkI N n p len c m wd w v L T W.drew := ⟨h.own, h.b6, h.b7, h.out, h.b10, h.i1, h.i2, h.bel.drew⟩
/-- The count is set. -/
theorem PkI.put10 (h : PkI N n p len c m wd w v L T W) (T' : Nat) : PkI N n p len c m wd w v L T' (W.setCell ⟨N + 1 + 1 + 1, 0, none⟩ (.int .i64 (T' : Int))) := by
  have hk : ∀ {k : Nat} {o : Obj}, k ≠ N + 1 + 1 + 1 → W.heap[k]? = some o → (W.setCell ⟨N + 1 + 1 + 1, 0, none⟩ (.int .i64 (T' : Int))).heap[k]? = some o := fun hne h1 => (Below.heap_setCell W ⟨N + 1 + 1 + 1, 0, none⟩ _ _ hne).trans h1
  refine ⟨own_keep h.own (fun k cs h3 => hk ?_ h3), hk (by omega) h.b6, hk (by omega) h.b7, hk (by omega) h.out, block_of_set h.b10, hk (by omega) h.i1, hk (by omega) h.i2, h.bel.setCell (p := ⟨N + 1 + 1 + 1, 0, none⟩) (by show N ≤ N + 1 + 1 + 1; omega) _⟩
  rintro rfl
  rw [h.b10] at h3; cases h3
/-- A byte more. -/
theorem PkI.app (h : PkI N n p len c m wd w v L T W) (hg : Grew N W v L' W' v') : W'.ownsRow N 5 1 v' L'.length (u8s L') ∧ PkI N n p len c m wd w v' L' T (W'.setCell ⟨N + 1 + 1, 0, none⟩ v') ∧ KeepsOthers W (W'.setCell ⟨N + 1 + 1, 0, none⟩ v') ∧ W'.heap[N + 1 + 1]? = some (.cells #[v] 22 (0, 0)) ∧ Below N W (W'.setCell ⟨N + 1 + 1, 0, none⟩ v') := by
  have hk : ∀ {k : Nat} {cs : Array Value} {t : TypeId}, W.heap[k]? = some (.cells cs t (0, 0)) → t ≠ 5 → W'.heap[k]? = some (.cells cs t (0, 0)) := fun h1 h2 => (hg.grown.block _ (Array.getElem?_eq_some_iff.1 h1).1 (own_ne h.own h1 h2)).trans h1
  have hs : ∀ {k : Nat} {o : Obj}, k ≠ N + 1 + 1 → W'.heap[k]? = some o → (W'.setCell ⟨N + 1 + 1, 0, none⟩ v').heap[k]? = some o := fun hne h1 => (Below.heap_setCell W' ⟨N + 1 + 1, 0, none⟩ _ _ hne).trans h1
  have hO := hk h.out (by decide)
  have hne : ∀ {k : Nat} {cs : Array Value}, W'.heap[k]? = some (.cells cs 5 (0, 0)) → k ≠ N + 1 + 1 := by
    rintro k cs h1 rfl
    rw [hO] at h1; cases h1
  have hb1 : Below N w W' := h.bel.grown hg.grown h.lt (fun k e => own_ge h.own e)
  refine ⟨hg.own, ⟨own_keep hg.own (fun k cs h3 => hs (hne h3) h3), hs (by omega) (hk h.b6 (by decide)), hs (by omega) (hk h.b7 (by decide)), block_of_set hO, hs (by omega) (hk h.b10 (by decide)), hs (by omega) (hk h.i1 (by decide)), hs (by omega) (hk h.i2 (by decide)), hb1.setCell (p := ⟨N + 1 + 1, 0, none⟩) (by show N ≤ N + 1 + 1; omega) _⟩, (KeepsOthers.of_grownBy hg.grown (own_cells h.own)).trans (KeepsOthers.setCell _ _ _), hO, ((Below.refl N W).grown hg.grown h.lt (fun k e => own_ge h.own e)).setCell (p := ⟨N + 1 + 1, 0, none⟩) (by show N ≤ N + 1 + 1; omega) _⟩
/-- A byte is set. -/
theorem PkI.set (h : PkI N n p len c m wd w v L T W) (hl : 0 < L.length) : ∃ g cap, v = .slice (some ⟨g, 0, none⟩) L.length cap ∧ L.length ≤ cap ∧ (∀ j, j < L.length → W.cell? ⟨g, j, none⟩ = some (.int .u8 (((L.getD j 0).toNat : Nat) : Int))) ∧ (∀ j, W.frozen? ⟨g, j, none⟩ = false) ∧ (∀ k, k ≤ N + 1 + 1 + 1 + 1 + 1 → N ≤ k → k ≠ g) ∧ ∀ k (y : UInt8), k < L.length → PkI N n p len c m wd w v (L.set k y) T (W.setCell ⟨g, k, none⟩ (.int .u8 (y.toNat : Int))) ∧ Below N W (W.setCell ⟨g, k, none⟩ (.int .u8 (y.toNat : Int))) := by
  obtain ⟨g, cap, hv, hcap, hg, hgl, hc, hf, hset⟩ := own_set h.own hl
  have hx : ∀ {k : Nat} {cs : Array Value} {t : TypeId}, W.heap[k]? = some (.cells cs t (0, 0)) → t ≠ 5 → k ≠ g := by
    rintro k cs t h1 h2 rfl
    have := own_ne h.own h1 h2
    rw [hv] at this; exact this rfl
  refine ⟨g, cap, hv, hcap, hc, hf, fun k hk1 hk2 => ?_, fun k y hk => ?_⟩
  · have : k = N ∨ k = N + 1 ∨ k = N + 1 + 1 ∨ k = N + 1 + 1 + 1 ∨ k = N + 1 + 1 + 1 + 1 ∨ k = N + 1 + 1 + 1 + 1 + 1 := by omega
    rcases this with rfl | rfl | rfl | rfl | rfl | rfl
    · exact hx h.b6 (by decide)
    · exact hx h.b7 (by decide)
    · exact hx h.out (by decide)
    · exact hx h.b10 (by decide)
    · exact hx h.i1 (by decide)
    · exact hx h.i2 (by decide)
  · have hk' : ∀ {j : Nat} {cs : Array Value} {t : TypeId}, W.heap[j]? = some (.cells cs t (0, 0)) → t ≠ 5 → (W.setCell ⟨g, k, none⟩ (.int .u8 (y.toNat : Int))).heap[j]? = some (.cells cs t (0, 0)) := fun h1 h2 => (Below.heap_setCell W ⟨g, k, none⟩ _ _ (hx h1 h2)).trans h1
    have ho := hset k y hk
    rw [show L.length = (L.set k y).length by rw [List.length_set]] at ho
    exact ⟨⟨ho, hk' h.b6 (by decide), hk' h.b7 (by decide), hk' h.out (by decide), hk' h.b10 (by decide), hk' h.i1 (by decide), hk' h.i2 (by decide), h.bel.setCell (p := ⟨g, k, none⟩) hg _⟩, (Below.refl N W).setCell (p := ⟨g, k, none⟩) hg _⟩
end
end Go.Proofs.YtpbcdmefngbjjaaGreatDoor
namespace Go.Proofs.YtpbcdmefngbjjaaGreatDoor
open Go.RowKit Go.Shelf
open Go.Lib
attribute [local go_sem] Oper.semAt_some
theorem grew_none {w W : World} {v : Value} {L : List UInt8} (h : W.ownsRow w.heap.size 5 1 v L.length (u8s L)) (hb : Below w.heap.size w W) : Grew w.heap.size w (.slice none 0 0) L W v := by
  refine ⟨h, ⟨hb.os, hb.tape, hb.output, hb.size, fun k hk _ => hb.block k hk⟩, ?_⟩
  cases e : v.ownBlock with
  | none => exact .inl rfl
  | some j => exact .inr ⟨j, rfl, own_ge h e⟩
theorem and_one {d e : Nat} (hd : d < W64) : IntKind.u8.wrap (bits .and .u64 ((d : Int) / 2 ^ e) 1) = ((d / 2 ^ e % 2 : Nat) : Int) := by
  have h0 : d / 2 ^ e < 18446744073709551616 := Nat.lt_of_le_of_lt (Nat.div_le_self _ _) hd
  have h1 : (d : Int) / 2 ^ e = ((d / 2 ^ e : Nat) : Int) := by rw [Int.natCast_ediv, Int.natCast_pow]; rfl
  have h2 := u64_and_nat (d / 2 ^ e) 1 h0 (by decide)
  rw [nat_mask1] at h2
  rw [h1, show (1 : Int) = ((1 : Nat) : Int) from rfl, h2, IntKind.wrap_u8']
  omega
theorem one_bs (w : World) (y : UInt8) : Bs (w.alloc (.cells #[.int .u8 (y.toNat : Int)] 5)) (some ⟨w.heap.size, 0, none⟩) [y] := by
  refine .inr ⟨w.heap.size, 0, rfl, by simp, fun j hj => ?_⟩
  obtain rfl : j = 0 := by simp at hj; omega
  have := World.alloc_heap_new w (.cells #[.int .u8 (y.toNat : Int)] 5)
  simp only [World.cell?, this]
  rfl
theorem alloc_at {W : World} {o : Obj} {k : Nat} (h : W.heap.size = k) : (W.alloc o).heap[k]? = some o := by subst h; exact World.alloc_heap_new W o
theorem alloc_keep {W : World} {o o' : Obj} {k : Nat} (h : W.heap[k]? = some o') : (W.alloc o).heap[k]? = some o' := (Below.heap_alloc W o k (Array.getElem?_eq_some_iff.1 h).1).trans h
set_option maxRecDepth 100000 in
set_option maxHeartbeats 4000000 in
theorem packed_any (p : Option Addr) (c n len k m wd : Nat) (l : List UInt8) (w : World) (HL : Hid (len = l.length)) (HK : Hid (k = len / n)) (h1 : 1 ≤ n) (h2 : n ≤ 8) (hl : len ≤ 1048576) (hc : len ≤ c) (hm : ∀ g ∈ gl n k l, m ≤ g) (hwd : wd ≤ 64) (hbs : Bs w p l) :
    Calls Tryz.prog 42 #[.slice p len c, .int .i64 (n : Int), .int .u64 (m : Int), .int .i64 (wd : Int)] w (App w.heap.size w (.slice none 0 0) (pkL (btF (gl n k l) m wd) (k * wd))) := by
  have HBS : Hid (BsN w.heap.size w p l) := Lib.hid hbs.bsN
  have HM := Lib.hid hm
  have hkl : k ≤ len := by rw [HK.out]; exact Nat.div_le_self _ _
  obtain ⟨R, HR⟩ : ∃ R, Hid (R = pkL (btF (gl n k l) m wd) (k * wd)) := ⟨_, rfl⟩
  rw [← HR.out]
  clear hbs hm
  refine (callsIn_wide (n := 9)).1 ?_
  refine callsIn_of_wp_marks Tryz.func42 rfl trivial ?_ rfl
  simp only [Tryz.ntmps42, List.size_toArray, List.length_cons, List.length_nil, Nat.reduceAdd, Nat.reduceSub, Array.replicate_succ, Array.replicate_zero, List.push_toArray, List.append_toArray, List.nil_append, List.cons_append]
  gi_wp2_with (refine ⟨trivial, ?_⟩; gi_at_call 60; refine (numbers_in _ _ _ _ _ _).mono ?_; rintro e w' ⟨rfl, rfl⟩)
  obtain ⟨W0, hW0⟩ : ∃ W0, ((((((w.alloc (.cells #[.int .u64 (m : Int)] 38)).alloc (.cells #[.int .i64 (wd : Int)] 3)).alloc (.cells #[.slice none 0 0] 22)).alloc (.cells #[.int .i64 0] 3)).alloc (.cells #[.slice p len c] 22)).alloc (.cells #[.int .i64 (n : Int)] 3)) = W0 := ⟨_, rfl⟩
  have hs0 : W0.heap.size = w.heap.size + 6 := by rw [← hW0]; simp
  have hI0 : PkI w.heap.size n p len c m wd w (.slice none 0 0) [] 0 W0 := by
    have hb : Below w.heap.size w W0 := by rw [← hW0]; exact ((((((Below.refl _ w).alloc (Nat.le_refl _) _).alloc (by simp) _).alloc (by simp <;> omega) _).alloc (by simp <;> omega) _).alloc (by simp <;> omega) _).alloc (by simp <;> omega) _
    rw [← hW0] at hb ⊢
    exact ⟨⟨rfl, .inl ⟨rfl, rfl⟩⟩, (alloc_keep (alloc_keep (alloc_keep (alloc_keep (alloc_keep (alloc_at (rfl))))))), (alloc_keep (alloc_keep (alloc_keep (alloc_keep (alloc_at (by simp)))))), (alloc_keep (alloc_keep (alloc_keep (alloc_at (by simp))))), (alloc_keep (alloc_keep (alloc_at (by simp)))), (alloc_keep (alloc_at (by simp))), (alloc_at (by simp)), hb⟩
  rw [hW0]
  refine wpIn_rangeFunc_ownF rfl (by omega) (gf := 79) (lb := #[.pointer (some ⟨w.heap.size + 1 + 1 + 1 + 1 + 1, 0, none⟩), .pointer (some ⟨w.heap.size + 1 + 1 + 1 + 1, 0, none⟩)]) rfl trivial (enters_of Tryz.func79 (by kernel_rfl) rfl)
    (numbers_stops_w _ (by omega) (w.heap.size + 1 + 1 + 1 + 1 + 1) (w.heap.size + 1 + 1 + 1 + 1) w.heap.size n len k c l p HL HK h1 h2 hl hc W0 (by omega) (by omega) (by omega) (by simp [World.cell?, hI0.i2]) (by simp [World.cell?, hI0.i1]) (HBS.out.keep hI0.bel)) Keep3.trans
    (fun W lo o o' hlo ho hc hw => ⟨(Below.refl _ W).grown (grownBy_putObj' W lo o') (by have := (Array.getElem?_eq_some_iff.1 ho).1; omega) (fun k e => by cases e; omega), World.putObj_heap_other (by omega), World.putObj_heap_other (by omega)⟩) (Below.refl _ _) (fun _ => rfl)
    (fun pre W => ∃ v, PkI w.heap.size n p len c m wd w v (pkL (btF (gP l n pre) m wd) (pre.length * wd)) (pre.length * wd) W)
    (fun _ _ _ => False)
    (fun s W W' row h hg hr => by obtain ⟨v, h⟩ := h; exact ⟨v, h.keep hg (fun r e => ⟨by have := (hr r e).1; omega, (hr r e).2⟩) h.lt⟩)
    (fun _ _ _ _ _ h _ _ => h)
    ⟨_, by rw [show ([] : List (Pl k)).length = 0 from rfl, Nat.zero_mul]; exact hI0⟩ ?a1 ?assign ?body ?done ?stop
  case assign =>
    intro lo x W K hK
    gi_wp2
    exact hK
  case body =>
    rintro lo pre x W ⟨v, hI⟩ hlen
    obtain ⟨g, HG⟩ : ∃ g, Hid (g = gN l n x.1) := ⟨_, rfl⟩
    have e10 : (nb ((l.drop (x.1 * n)).take n)) = g := HG.out.symm
    obtain ⟨gs1, HG1⟩ : ∃ gs1, Hid (gs1 = gP l n pre ++ [g]) := ⟨_, rfl⟩
    obtain ⟨T0, HT0⟩ : ∃ T0, Hid (T0 = pre.length * wd) := ⟨_, rfl⟩
    obtain ⟨b, HB⟩ : ∃ b, Hid (b = btF gs1 m wd) := ⟨_, rfl⟩
    have HB2 : Hid (∀ t, b t < 2) := Lib.hid (fun t => by rw [HB.out]; exact btF_lt _ _ _ _)
    obtain ⟨d, HD⟩ : ∃ d, Hid (d = g - m) := ⟨_, rfl⟩
    have hg : g < W64 := by rw [HG.out]; exact gN_lt l h2 _
    have hgm : m ≤ g := HM.out g (by rw [← gN_range, HG.out]; exact List.mem_map_of_mem (List.mem_range.2 x.2))
    have hd : d < W64 := by rw [HD.out]; omega
    have hsub : IntKind.u64.wrap ((g : Int) - (m : Int)) = (d : Int) := by
      rw [IntKind.wrap_u64, HD.out]; unfold W64 at hg; omega
    have HBT : Hid (∀ j, j < wd → b (T0 + j) = d / 2 ^ (wd - 1 - j) % 2) := Lib.hid (fun j hj => by
      rw [HB.out, HT0.out, btF_at _ _ hj, HD.out, HG1.out, List.getD_eq_getElem?_getD, List.getElem?_append_right (by rw [gP_length]; exact Nat.le_refl _), gP_length, Nat.sub_self]; rfl)
    have hI1 : PkI w.heap.size n p len c m wd w v (pkL b T0) T0 W := by
      rw [← HT0.out, pkL_congr (b' := b) (fun t ht => by
        rw [HB.out, HG1.out]; exact (btF_append (by rw [gP_length, ← HT0.out]; exact ht)).symm)] at hI
      exact hI
    have HI1 := Lib.hid hI1
    have HEND : Hid (∀ v W3, PkI w.heap.size n p len c m wd w v (pkL b (T0 + wd)) (T0 + wd) W3 → KeepsOthers W W3 → Below w.heap.size W W3 → KeepsOthers W W3 ∧ Keep3 w.heap.size (w.heap.size + 1 + 1 + 1 + 1 + 1) (w.heap.size + 1 + 1 + 1 + 1) W W3 ∧
        ∃ v, PkI w.heap.size n p len c m wd w v (pkL (btF (gP l n (pre ++ [x])) m wd) ((pre ++ [x]).length * wd)) ((pre ++ [x]).length * wd) W3) := Lib.hid (fun v W3 k1 k2 k3 => by
      refine ⟨k2, ⟨k3, k1.i2.trans HI1.out.i2.symm, k1.i1.trans HI1.out.i1.symm⟩, v, ?_⟩
      rw [gP_snoc, ← HG.out, ← HG1.out, ← HB.out, List.length_append, show [x].length = 1 from rfl, Nat.succ_mul, ← HT0.out]
      exact k1)
    have hT0 : T0 ≤ 67108864 := by
      have h5 : pre.length * wd ≤ 1048576 * 64 := Nat.mul_le_mul (by omega) hwd
      rw [HT0.out]; omega
    have c7 : W.cell? ⟨w.heap.size + 1, 0, none⟩ = some (.int .i64 (wd : Int)) := by simp [World.cell?, hI1.b7]
    have hwi : (wd : Int) ≤ 64 := by omega
    have hwp : wrap64 ((wd : Int) - 1) = (wd : Int) - 1 - ((0 : Nat) : Int) := by unfold wrap64; omega
    simp only [e10]
    clear hI hI1 e10
    gi_wp2
    gi_loopw [12] (fun tv wr => ∃ (j : Nat) (v : Value), j ≤ wd ∧ tv = .int .i64 ((wd : Int) - 1 - (j : Int)) ∧ Hid (PkI w.heap.size n p len c m wd w v (pkL b (T0 + j)) (T0 + j) wr) ∧ Hid (KeepsOthers W wr ∧ Below w.heap.size W wr)) (fun tv _ => (Go.RowKit.intOf tv + 1).toNat)
    case atStart => exact ⟨0, v, Nat.zero_le _, by congr 1; omega, Lib.hid (by rw [Nat.add_zero]; exact HI1.out), Lib.hid ⟨KeepsOthers.refl _, Below.refl _ _⟩⟩
    case round =>
      clear c7
      obtain ⟨j, v, hj, rfl, HI, HK2⟩ := hrel
      obtain ⟨T, HT⟩ : ∃ T, Hid (T = T0 + j) := ⟨_, rfl⟩
      rw [← HT.out] at HI
      by_cases hjw : j < wd
      · obtain ⟨bit, HBIT⟩ : ∃ bit : Nat, Hid (bit = wd - 1 - j) := ⟨_, rfl⟩
        have ebit : (wd : Int) - 1 - (j : Int) = (bit : Int) := by rw [HBIT.out]; omega
        have hTl : (T : Int) ≤ 67108928 := by rw [HT.out]; omega
        have hbit : (bit : Int) ≤ 63 := by omega
        have HbT : Hid (b T = d / 2 ^ bit % 2) := Lib.hid (by rw [HT.out, HBIT.out]; exact HBT.out j hjw)
        rw [ebit]
        have c10 : wr.cell? ⟨w.heap.size + 1 + 1 + 1, 0, none⟩ = some (.int .i64 (T : Int)) := by simp [World.cell?, HI.out.b10]
        have cO : wr.cell? ⟨w.heap.size + 1 + 1, 0, none⟩ = some v := by simp [World.cell?, HI.out.out]
        obtain ⟨L, HLL⟩ : ∃ L, Hid (L = pkL b T) := ⟨_, rfl⟩
        rw [← HLL.out] at HI
        have hLl : Hid (L.length = (T + 7) / 8) := Lib.hid (by rw [HLL.out, pkL_length])
        by_cases h8 : T % 8 = 0
        · have h8' : (T : Int) % 8 = 0 := by omega
          have HIa : Hid (PkI w.heap.size n p len c m wd w v L T (wr.alloc (.cells #[.int .u8 (((0 : UInt8).toNat : Nat) : Int)] 5))) := Lib.hid (HI.out.keep (World.grownBy_alloc wr _ none) (fun r e => by cases e) HI.out.lt)
          have hko : Hid (KeepsOthers wr (wr.alloc (.cells #[.int .u8 (((0 : UInt8).toNat : Nat) : Int)] 5)) ∧ Below w.heap.size wr (wr.alloc (.cells #[.int .u8 (((0 : UInt8).toNat : Nat) : Int)] 5))) := Lib.hid ⟨KeepsOthers.alloc _ _, (Below.refl _ _).alloc HI.out.lt _⟩
          have hbs0 := Lib.hid (one_bs wr 0)
          have hlens : Hid (L.length + 1 ≤ 140737488355328 ∧ w.heap.size ≤ (wr.alloc (.cells #[.int .u8 (((0 : UInt8).toNat : Nat) : Int)] 5)).heap.size) := Lib.hid ⟨by rw [hLl.out]; omega, HIa.out.lt⟩
          gi_wp2_with (refine wpListIn_plain (o := ⟨some 28, _, _, _, _, _⟩) rfl fun K hK => oper_round rfl (op_append_bs (.tmp 26) (.tmp 27) rfl w.heap.size v L.length L rfl rfl HIa.out.own _ 1 1 [0] rfl rfl hbs0.out hlens.out.1 hlens.out.2 ?_))
          intro v5 W5 hg5
          obtain ⟨hown5, hci5, hko5, hO5, hbl5⟩ := HIa.out.app hg5
          obtain ⟨L1, HL1⟩ : ∃ L1, Hid (L1 = L ++ [0]) := ⟨L ++ [0], Lib.hid rfl⟩
          rw [← HL1.out] at hown5 hci5
          obtain ⟨p5, c5, rfl, -, -⟩ := own_bytes hown5
          obtain ⟨m5, HM5⟩ : ∃ m5, Hid (m5 = L1.length) := ⟨_, rfl⟩
          rw [← HM5.out] at hci5 hko5 hbl5 ⊢
          have fO : W5.cell? ⟨w.heap.size + 1 + 1, 0, none⟩ = some v := by simp [World.cell?, hO5]
          have fOz : W5.frozen? ⟨w.heap.size + 1 + 1, 0, none⟩ = false := by simp [World.frozen?, hO5]
          obtain ⟨W6, hW6⟩ : ∃ W6, W5.setCell ⟨w.heap.size + 1 + 1, 0, none⟩ (.slice p5 m5 c5) = W6 := ⟨_, rfl⟩
          rw [hW6] at hci5 hko5 hbl5
          have HI6 := Lib.hid hci5
          have HK6 : Hid (KeepsOthers W W6 ∧ Below w.heap.size W W6) := Lib.hid ⟨(HK2.out.1.trans hko.out.1).trans hko5, (HK2.out.2.trans hko.out.2).trans hbl5⟩
          have hl1 : Hid (L1.length = T / 8 + 1) := Lib.hid (by rw [HL1.out, List.length_append, hLl.out]; show (T + 7) / 8 + 1 = _; omega)
          have hg1 : Hid (L1.getD (T / 8) 0 = UInt8.ofNat (bv b (T / 8) (T % 8))) := Lib.hid (by
            rw [HL1.out, List.getD_eq_getElem?_getD, List.getElem?_append_right (by rw [hLl.out]; omega), hLl.out, show T / 8 - (T + 7) / 8 = 0 by omega, h8]; rfl)
          have hs1 : Hid (L1.set (T / 8) (UInt8.ofNat (bv b (T / 8) (T % 8 + 1))) = pkL b (T + 1)) := Lib.hid (by
            rw [pkL_new b h8, HL1.out, HLL.out, h8, List.set_append_right _ _ (by rw [pkL_length]; omega), pkL_length, show T / 8 - (T + 7) / 8 = 0 by omega]; rfl)
          clear hown5 hci5 hko5 hO5 hbl5 hg5
          refine hK _ _ ?_
          gi_wp2
          try rw [hW6]
          clear fO fOz hW6 hK
          clear c10 cO
          obtain ⟨gb, cap, hv6, hcap, hcell, hfree, hdis, hset⟩ := HI6.out.drew.set (by rw [hl1.out]; omega)
          injection hv6 with q1 q2 q3
          have q4 := q3.symm
          subst q1
          subst q2
          subst q4
          have HSET := Lib.hid hset
          obtain ⟨m1, HM1⟩ : ∃ m1, Hid (m1 = L1.length) := ⟨_, rfl⟩
          have hm1 : T / 8 < m1 := by rw [HM1.out, hl1.out]; omega
          obtain ⟨X, HX⟩ : ∃ X, Hid (X = bv b (T / 8) (T % 8)) := ⟨_, rfl⟩
          obtain ⟨Y, HY⟩ : ∃ Y : UInt8, Hid (Y = UInt8.ofNat (bv b (T / 8) (T % 8 + 1))) := ⟨_, rfl⟩
          obtain ⟨q, HQ⟩ : ∃ q, Hid (q = T / 8) := ⟨_, rfl⟩
          have hq : IntKind.i64.wrap ((T : Int) / 8) = (q : Int) := by rw [HQ.out, IntKind.wrap_i64]; omega
          have hq1 : (q : Int) < (m1 : Int) := by rw [HQ.out]; omega
          rw [← HQ.out] at hm1
          have c33 : W6.drew.cell? ⟨gb, q, none⟩ = some (.int .u8 (X : Int)) := by
            have h := hcell (T / 8) (by rw [hl1.out]; omega)
            rw [hg1.out, bv_u8 b HB2.out _ (by omega), ← HX.out, ← HQ.out] at h; exact h
          have f33 : W6.drew.frozen? ⟨gb, q, none⟩ = false := hfree _
          have hXl : X < 256 := by
            have h := bv_lt b HB2.out (T / 8) (T % 8) (by omega)
            have h5 : 0 < 2 ^ (8 - T % 8) := Nat.pow_pos (by decide)
            rw [HX.out]; omega
          have d6 : W6.drew.cell? ⟨w.heap.size, 0, none⟩ = some (.int .u64 (m : Int)) := by
            have h := HI6.out.drew.b6; simp [World.cell?, h]
          have dO : W6.drew.cell? ⟨w.heap.size + 1 + 1, 0, none⟩ = some (.slice (some ⟨gb, 0, none⟩) m1 cap) := by
            have h := HI6.out.drew.out; rw [← HM1.out] at h; simp [World.cell?, h]
          have d10 : W6.drew.cell? ⟨w.heap.size + 1 + 1 + 1, 0, none⟩ = some (.int .i64 (T : Int)) := by
            have h := HI6.out.drew.b10; simp [World.cell?, h]
          have g0 := hdis w.heap.size (by omega) (by omega)
          have g2 := hdis (w.heap.size + 1 + 1) (by omega) (by omega)
          have g3 := hdis (w.heap.size + 1 + 1 + 1) (by omega) (by omega)
          obtain ⟨bt, HBt⟩ : ∃ bt, Hid (bt = b T) := ⟨_, rfl⟩
          have hbt2 : bt < 2 := by rw [HBt.out]; exact HB2.out T
          obtain ⟨r7, HR7⟩ : ∃ r7, Hid (r7 = 7 - T % 8) := ⟨_, rfl⟩
          have hr7l : r7 ≤ 7 := by rw [HR7.out]; omega
          have hr7 : IntKind.i64.wrap (7 - (T : Int).tmod 8) = (r7 : Int) := by
            rw [Int.tmod_eq_emod_of_nonneg (by omega), IntKind.wrap_i64, HR7.out]; omega
          have hr70 : 0 ≤ (r7 : Int) := by omega
          have hand : IntKind.u8.wrap (bits .and .u64 ((d : Int) / 2 ^ bit) 1) = (bt : Int) := by rw [and_one hd, HBt.out, HbT.out]
          have hpw : bt * 2 ^ r7 < 256 := by
            have h6 : 2 ^ r7 ≤ 2 ^ 7 := Nat.pow_le_pow_right (by decide) hr7l
            have h7 : bt * 2 ^ r7 ≤ 1 * 2 ^ r7 := Nat.mul_le_mul_right _ (by omega)
            omega
          have hshl : IntKind.u8.wrap ((bt : Int) * 2 ^ r7) = ((bt * 2 ^ r7 : Nat) : Int) := by
            rw [IntKind.wrap_u8', show (bt : Int) * 2 ^ r7 = ((bt * 2 ^ r7 : Nat) : Int) by rw [Int.natCast_mul, Int.natCast_pow]; rfl]; omega
          have hor : bits .or .u8 (X : Int) ((bt * 2 ^ r7 : Nat) : Int) = ((Y.toNat : Nat) : Int) := by
            rw [u8_or_nat X _ hXl hpw, HX.out, HBt.out, HR7.out, HY.out, bv_u8 b HB2.out _ (by omega), ← bv_or b HB2.out (T / 8) (by omega), show 8 * (T / 8) + T % 8 = T by omega]
          obtain ⟨sh, HSH⟩ : ∃ sh, Hid (sh = bt * 2 ^ r7) := ⟨_, rfl⟩
          rw [← HSH.out] at hshl hor
          obtain ⟨W7, hW7⟩ : ∃ W7, W6.drew.setCell ⟨gb, q, none⟩ (.int .u8 ((Y.toNat : Nat) : Int)) = W7 := ⟨_, rfl⟩
          have HI7 : Hid (PkI w.heap.size n p len c m wd w (.slice (some ⟨gb, 0, none⟩) m1 cap) (pkL b (T + 1)) T W7) := Lib.hid (by
            have h := (HSET.out q Y (by rw [← HM1.out]; omega)).1
            rw [hW7] at h
            rwa [← hs1.out, ← HY.out, ← HQ.out, HM1.out])
          have HK7 : Hid (KeepsOthers W W7 ∧ Below w.heap.size W W7) := Lib.hid (by
            have h := (HSET.out q Y (by rw [← HM1.out]; omega)).2
            rw [hW7] at h
            exact ⟨HK6.out.1.trans ((KeepsOthers.drew W6).trans (by rw [← hW7]; exact KeepsOthers.setCell _ _ _)), HK6.out.2.trans (((Below.refl _ W6).drew).trans h)⟩)
          have k6 : W7.cell? ⟨w.heap.size, 0, none⟩ = some (.int .u64 (m : Int)) := by have h := HI7.out.b6; simp [World.cell?, h]
          have kO : W7.cell? ⟨w.heap.size + 1 + 1, 0, none⟩ = some (.slice (some ⟨gb, 0, none⟩) m1 cap) := by have h := HI7.out.out; simp [World.cell?, h]
          have k10 : W7.cell? ⟨w.heap.size + 1 + 1 + 1, 0, none⟩ = some (.int .i64 (T : Int)) := by have h := HI7.out.b10; simp [World.cell?, h]
          have k10z : W7.frozen? ⟨w.heap.size + 1 + 1 + 1, 0, none⟩ = false := by have h := HI7.out.b10; simp [World.frozen?, h]
          have HI8 := Lib.hid (HI7.out.put10 (T + 1))
          have HK8 : Hid (KeepsOthers W (W7.setCell ⟨w.heap.size + 1 + 1 + 1, 0, none⟩ (.int .i64 ((T + 1 : Nat) : Int))) ∧ Below w.heap.size W (W7.setCell ⟨w.heap.size + 1 + 1 + 1, 0, none⟩ (.int .i64 ((T + 1 : Nat) : Int)))) := Lib.hid ⟨HK7.out.1.trans (KeepsOthers.setCell _ _ _), HK7.out.2.trans ((Below.refl _ W7).setCell (p := ⟨w.heap.size + 1 + 1 + 1, 0, none⟩) (by show w.heap.size ≤ w.heap.size + 1 + 1 + 1; omega) _)⟩
          clear hset hcell hfree hdis hXl hbt2 hpw
          refine region_round (S := fun W' => W'.cell? ⟨w.heap.size, 0, none⟩ = some (.int .u64 (m : Int)) ∧ W'.cell? ⟨w.heap.size + 1 + 1, 0, none⟩ = some (.slice (some ⟨gb, 0, none⟩) m1 cap) ∧ W'.cell? ⟨w.heap.size + 1 + 1 + 1, 0, none⟩ = some (.int .i64 (T : Int))) (by kernel_rfl) (by kernel_rfl) (fun ⟨_, _, h⟩ => h) ⟨d6, dO, d10⟩ (fun hHeld => ?_)
          refine wpAnyH_take (i := 0) (v := ?v1) rfl (by kernel_rfl) (by kernel_rfl) (by kernel_rfl) (fun _ _ _ h => h) (Or.inl ⟨by rfl, ?hy1⟩) (by assumption) ?rest1
          case hy1 =>
            intro W' hSw
            obtain ⟨e6, eO, e10⟩ := hSw
            go_simp
            with_reducible rfl
          simp only [List.getElem_toArray, List.getElem_cons_zero, Act.put, List.setIfInBounds_toArray, List.set_cons_zero, List.set_cons_succ]
          refine wpAnyH_take (i := 1) (v := ?v2) rfl (by kernel_rfl) (by kernel_rfl) (by kernel_rfl) (fun _ _ _ h => h) (Or.inl ⟨by rfl, ?hy2⟩) (by assumption) ?rest2
          case hy2 =>
            intro W' hSw
            obtain ⟨e6, eO, e10⟩ := hSw
            go_simp
            with_reducible rfl
          simp only [List.getElem_toArray, List.getElem_cons_zero, List.getElem_cons_succ, Act.put, List.setIfInBounds_toArray, List.set_cons_zero, List.set_cons_succ]
          refine wpAnyH_take (i := 2) (v := ?v3) rfl (by kernel_rfl) (by kernel_rfl) (by kernel_rfl) (fun _ _ _ h => h) (Or.inl ⟨by rfl, ?hy3⟩) (by assumption) ?rest3
          case hy3 =>
            intro W' hSw
            obtain ⟨e6, eO, e10⟩ := hSw
            go_simp
            with_reducible rfl
          simp only [List.getElem_toArray, List.getElem_cons_zero, List.getElem_cons_succ, Act.put, List.setIfInBounds_toArray, List.set_cons_zero, List.set_cons_succ]
          refine wpAnyH_take (i := 3) (v := ?v4) rfl (by kernel_rfl) (by kernel_rfl) (by kernel_rfl) (fun _ _ _ h => h) (Or.inl ⟨by rfl, ?hy4⟩) (by assumption) ?rest4
          case hy4 =>
            intro W' hSw
            obtain ⟨e6, eO, e10⟩ := hSw
            go_simp
            with_reducible rfl
          simp only [List.getElem_toArray, List.getElem_cons_zero, List.getElem_cons_succ, Act.put, List.setIfInBounds_toArray, List.set_cons_zero, List.set_cons_succ]
          refine wpAnyH_take (i := 5) (v := ?v5) rfl (by kernel_rfl) (by kernel_rfl) (by kernel_rfl) (fun _ _ _ h => h) (Or.inl ⟨by rfl, ?hy5⟩) (by assumption) ?rest5
          case hy5 =>
            intro W' hSw
            obtain ⟨e6, eO, e10⟩ := hSw
            go_simp
            with_reducible rfl
          simp only [List.getElem_toArray, List.getElem_cons_zero, List.getElem_cons_succ, Act.put, List.setIfInBounds_toArray, List.set_cons_zero, List.set_cons_succ]
          refine wpAnyH_take (i := 6) (v := ?v6) rfl (by kernel_rfl) (by kernel_rfl) (by kernel_rfl) (fun _ _ _ h => h) (Or.inl ⟨by rfl, ?hy6⟩) (by assumption) ?rest6
          case hy6 =>
            intro W' hSw
            obtain ⟨e6, eO, e10⟩ := hSw
            go_simp
            with_reducible rfl
          simp only [List.getElem_toArray, List.getElem_cons_zero, List.getElem_cons_succ, Act.put, List.setIfInBounds_toArray, List.set_cons_zero, List.set_cons_succ]
          refine wpAnyH_take (i := 7) (v := ?v7) rfl (by kernel_rfl) (by kernel_rfl) (by kernel_rfl) (fun _ _ _ h => h) (Or.inl ⟨by rfl, ?hy7⟩) (by assumption) ?rest7
          case hy7 =>
            intro W' hSw
            obtain ⟨e6, eO, e10⟩ := hSw
            go_simp
            with_reducible rfl
          simp only [List.getElem_toArray, List.getElem_cons_zero, List.getElem_cons_succ, Act.put, List.setIfInBounds_toArray, List.set_cons_zero, List.set_cons_succ]
          refine wpAnyH_take (i := 8) (v := ?v8) rfl (by kernel_rfl) (by kernel_rfl) (by kernel_rfl) (fun _ _ _ h => h) (Or.inl ⟨by rfl, ?hy8⟩) (by assumption) ?rest8
          case hy8 =>
            intro W' hSw
            obtain ⟨e6, eO, e10⟩ := hSw
            go_simp
            with_reducible rfl
          simp only [List.getElem_toArray, List.getElem_cons_zero, List.getElem_cons_succ, Act.put, List.setIfInBounds_toArray, List.set_cons_zero, List.set_cons_succ]
          refine wpAnyH_take (i := 9) (v := ?v9) rfl (by kernel_rfl) (by kernel_rfl) (by kernel_rfl) (fun _ _ _ h => h) (Or.inl ⟨by rfl, ?hy9⟩) (by assumption) ?rest9
          case hy9 =>
            intro W' hSw
            obtain ⟨e6, eO, e10⟩ := hSw
            go_simp
            with_reducible rfl
          simp only [List.getElem_toArray, List.getElem_cons_zero, List.getElem_cons_succ, Act.put, List.setIfInBounds_toArray, List.set_cons_zero, List.set_cons_succ]
          refine wpAnyH_take (i := 10) (v := ?v10) rfl (by kernel_rfl) (by kernel_rfl) (by kernel_rfl) (fun _ _ _ h => h) (Or.inl ⟨by rfl, ?hy10⟩) (by assumption) ?rest10
          case hy10 =>
            intro W' hSw
            obtain ⟨e6, eO, e10⟩ := hSw
            go_simp
            with_reducible rfl
          simp only [List.getElem_toArray, List.getElem_cons_zero, List.getElem_cons_succ, Act.put, List.setIfInBounds_toArray, List.set_cons_zero, List.set_cons_succ]
          refine wpAnyH_take (i := 11) (v := ?v11) rfl (by kernel_rfl) (by kernel_rfl) (by kernel_rfl) (fun _ _ _ h => h) (Or.inl ⟨by rfl, ?hy11⟩) (by assumption) ?rest11
          case hy11 =>
            intro W' hSw
            obtain ⟨e6, eO, e10⟩ := hSw
            go_simp
            with_reducible rfl
          simp only [List.getElem_toArray, List.getElem_cons_zero, List.getElem_cons_succ, Act.put, List.setIfInBounds_toArray, List.set_cons_zero, List.set_cons_succ]
          refine wpAnyH_take (i := 12) (v := ?v12) rfl (by kernel_rfl) (by kernel_rfl) (by kernel_rfl) (fun _ _ _ h => h) (Or.inl ⟨by rfl, ?hy12⟩) (by assumption) ?rest12
          case hy12 =>
            intro W' hSw
            obtain ⟨e6, eO, e10⟩ := hSw
            go_simp
            with_reducible rfl
          simp only [List.getElem_toArray, List.getElem_cons_zero, List.getElem_cons_succ, Act.put, List.setIfInBounds_toArray, List.set_cons_zero, List.set_cons_succ]
          refine wpAnyH_take (i := 13) (v := ?v13) rfl (by kernel_rfl) (by kernel_rfl) (by kernel_rfl) (fun _ _ _ h => h) (Or.inl ⟨by rfl, ?hy13⟩) (by assumption) ?rest13
          case hy13 =>
            intro W' hSw
            obtain ⟨e6, eO, e10⟩ := hSw
            go_simp
            with_reducible rfl
          simp only [List.getElem_toArray, List.getElem_cons_zero, List.getElem_cons_succ, Act.put, List.setIfInBounds_toArray, List.set_cons_zero, List.set_cons_succ]
          refine wpAnyH_take (i := 14) (v := ?v14) rfl (by kernel_rfl) (by kernel_rfl) (by kernel_rfl) (fun _ _ _ h => h) (Or.inl ⟨by rfl, ?hy14⟩) (by assumption) ?rest14
          case hy14 =>
            intro W' hSw
            obtain ⟨e6, eO, e10⟩ := hSw
            go_simp
            with_reducible rfl
          simp only [List.getElem_toArray, List.getElem_cons_zero, List.getElem_cons_succ, Act.put, List.setIfInBounds_toArray, List.set_cons_zero, List.set_cons_succ]
          refine wpAnyH_take (i := 15) (v := ?v15) rfl (by kernel_rfl) (by kernel_rfl) (by kernel_rfl) (fun _ _ _ h => h) (Or.inl ⟨by rfl, ?hy15⟩) (by assumption) ?rest15
          case hy15 =>
            intro W' hSw
            obtain ⟨e6, eO, e10⟩ := hSw
            go_simp
            with_reducible rfl
          simp only [List.getElem_toArray, List.getElem_cons_zero, List.getElem_cons_succ, Act.put, List.setIfInBounds_toArray, List.set_cons_zero, List.set_cons_succ]
          refine wpAnyH_ready (rs := [4]) (by kernel_rfl) (by simp) ?_
          refine AllReadyH.cons (i := 4) rfl (fun K hK => ?_) AllReadyH.nil
          go_simp
          refine hK.out _ _ (⟨d6, dO, d10⟩) (fun hHeld => ?_)
          clear hK K
          refine wpAnyH_ready (rs := [16]) (by kernel_rfl) (by simp) ?_
          refine AllReadyH.cons (i := 16) rfl (fun K hK => ?_) AllReadyH.nil
          go_simp
          try rw [hor]
          refine hK.out _ _ (⟨d6, dO, d10⟩) (fun hHeld => ?_)
          clear hK K
          refine wpAnyH_take (i := 17) (v := ?v16) rfl (by kernel_rfl) (by kernel_rfl) (by kernel_rfl) (fun _ _ _ h => h) (Or.inl ⟨by rfl, ?hy16⟩) (by assumption) ?rest16
          case hy16 =>
            intro W' hSw
            obtain ⟨e6, eO, e10⟩ := hSw
            go_simp
            with_reducible rfl
          simp only [List.getElem_toArray, List.getElem_cons_zero, List.getElem_cons_succ, Act.put, List.setIfInBounds_toArray, List.set_cons_zero, List.set_cons_succ]
          refine wpAnyH_ready (rs := [18]) (by kernel_rfl) (by simp) ?_
          refine AllReadyH.cons (i := 18) rfl (fun K hK => ?_) AllReadyH.nil
          go_simp
          try rw [hW7]
          refine hK.out _ _ (⟨k6, kO, k10⟩) (fun hHeld => ?_)
          clear hK K
          refine wpAnyH_done (by kernel_rfl) ?_ _
          clear hHeld d6 dO d10 c33 f33 hW7
          gi_wp2
          go_roundw
          case rel =>
            have e1 : ((T + 1 : Nat) : Int) = (T : Int) + 1 := by omega
            rw [e1] at HI8 HK8
            exact ⟨j + 1, _, by omega, by congr 1; rw [HBIT.out]; omega, Lib.hid (by rw [show T0 + (j + 1) = T + 1 by rw [HT.out]; omega]; exact HI8.out), HK8⟩
          case measure => simp [Go.RowKit.intOf]
        · have h8' : ¬ (T : Int) % 8 = 0 := by omega
          gi_wp2
          obtain ⟨W6, hW6⟩ : ∃ W6, wr = W6 := ⟨_, rfl⟩
          obtain ⟨L1, HL1⟩ : ∃ L1, Hid (L1 = L) := ⟨_, rfl⟩
          have HI6 : Hid (PkI w.heap.size n p len c m wd w v L1 T W6) := Lib.hid (by rw [← hW6, HL1.out]; exact HI.out)
          have HK6 : Hid (KeepsOthers W W6 ∧ Below w.heap.size W W6) := Lib.hid (by rw [← hW6]; exact HK2.out)
          have hl1 : Hid (L1.length = T / 8 + 1) := Lib.hid (by rw [HL1.out, hLl.out]; omega)
          have hg1 : Hid (L1.getD (T / 8) 0 = UInt8.ofNat (bv b (T / 8) (T % 8))) := Lib.hid (by
            rw [HL1.out, HLL.out, pkL_at b (by omega), show min 8 (T - 8 * (T / 8)) = T % 8 by omega])
          have hs1 : Hid (L1.set (T / 8) (UInt8.ofNat (bv b (T / 8) (T % 8 + 1))) = pkL b (T + 1)) := Lib.hid (by
            rw [pkL_old b h8, HL1.out, HLL.out])
          rw [hW6]
          clear hW6
          clear c10 cO
          obtain ⟨gb, cap, hv6, hcap, hcell, hfree, hdis, hset⟩ := HI6.out.drew.set (by rw [hl1.out]; omega)
          subst hv6
          have HSET := Lib.hid hset
          obtain ⟨m1, HM1⟩ : ∃ m1, Hid (m1 = L1.length) := ⟨_, rfl⟩
          have hm1 : T / 8 < m1 := by rw [HM1.out, hl1.out]; omega
          obtain ⟨X, HX⟩ : ∃ X, Hid (X = bv b (T / 8) (T % 8)) := ⟨_, rfl⟩
          obtain ⟨Y, HY⟩ : ∃ Y : UInt8, Hid (Y = UInt8.ofNat (bv b (T / 8) (T % 8 + 1))) := ⟨_, rfl⟩
          obtain ⟨q, HQ⟩ : ∃ q, Hid (q = T / 8) := ⟨_, rfl⟩
          have hq : IntKind.i64.wrap ((T : Int) / 8) = (q : Int) := by rw [HQ.out, IntKind.wrap_i64]; omega
          have hq1 : (q : Int) < (m1 : Int) := by rw [HQ.out]; omega
          rw [← HQ.out] at hm1
          have c33 : W6.drew.cell? ⟨gb, q, none⟩ = some (.int .u8 (X : Int)) := by
            have h := hcell (T / 8) (by rw [hl1.out]; omega)
            rw [hg1.out, bv_u8 b HB2.out _ (by omega), ← HX.out, ← HQ.out] at h; exact h
          have f33 : W6.drew.frozen? ⟨gb, q, none⟩ = false := hfree _
          have hXl : X < 256 := by
            have h := bv_lt b HB2.out (T / 8) (T % 8) (by omega)
            have h5 : 0 < 2 ^ (8 - T % 8) := Nat.pow_pos (by decide)
            rw [HX.out]; omega
          have d6 : W6.drew.cell? ⟨w.heap.size, 0, none⟩ = some (.int .u64 (m : Int)) := by
            have h := HI6.out.drew.b6; simp [World.cell?, h]
          have dO : W6.drew.cell? ⟨w.heap.size + 1 + 1, 0, none⟩ = some (.slice (some ⟨gb, 0, none⟩) m1 cap) := by
            have h := HI6.out.drew.out; rw [← HM1.out] at h; simp [World.cell?, h]
          have d10 : W6.drew.cell? ⟨w.heap.size + 1 + 1 + 1, 0, none⟩ = some (.int .i64 (T : Int)) := by
            have h := HI6.out.drew.b10; simp [World.cell?, h]
          have g0 := hdis w.heap.size (by omega) (by omega)
          have g2 := hdis (w.heap.size + 1 + 1) (by omega) (by omega)
          have g3 := hdis (w.heap.size + 1 + 1 + 1) (by omega) (by omega)
          obtain ⟨bt, HBt⟩ : ∃ bt, Hid (bt = b T) := ⟨_, rfl⟩
          have hbt2 : bt < 2 := by rw [HBt.out]; exact HB2.out T
          obtain ⟨r7, HR7⟩ : ∃ r7, Hid (r7 = 7 - T % 8) := ⟨_, rfl⟩
          have hr7l : r7 ≤ 7 := by rw [HR7.out]; omega
          have hr7 : IntKind.i64.wrap (7 - (T : Int).tmod 8) = (r7 : Int) := by
            rw [Int.tmod_eq_emod_of_nonneg (by omega), IntKind.wrap_i64, HR7.out]; omega
          have hr70 : 0 ≤ (r7 : Int) := by omega
          have hand : IntKind.u8.wrap (bits .and .u64 ((d : Int) / 2 ^ bit) 1) = (bt : Int) := by rw [and_one hd, HBt.out, HbT.out]
          have hpw : bt * 2 ^ r7 < 256 := by
            have h6 : 2 ^ r7 ≤ 2 ^ 7 := Nat.pow_le_pow_right (by decide) hr7l
            have h7 : bt * 2 ^ r7 ≤ 1 * 2 ^ r7 := Nat.mul_le_mul_right _ (by omega)
            omega
          have hshl : IntKind.u8.wrap ((bt : Int) * 2 ^ r7) = ((bt * 2 ^ r7 : Nat) : Int) := by
            rw [IntKind.wrap_u8', show (bt : Int) * 2 ^ r7 = ((bt * 2 ^ r7 : Nat) : Int) by rw [Int.natCast_mul, Int.natCast_pow]; rfl]; omega
          have hor : bits .or .u8 (X : Int) ((bt * 2 ^ r7 : Nat) : Int) = ((Y.toNat : Nat) : Int) := by
            rw [u8_or_nat X _ hXl hpw, HX.out, HBt.out, HR7.out, HY.out, bv_u8 b HB2.out _ (by omega), ← bv_or b HB2.out (T / 8) (by omega), show 8 * (T / 8) + T % 8 = T by omega]
          obtain ⟨sh, HSH⟩ : ∃ sh, Hid (sh = bt * 2 ^ r7) := ⟨_, rfl⟩
          rw [← HSH.out] at hshl hor
          obtain ⟨W7, hW7⟩ : ∃ W7, W6.drew.setCell ⟨gb, q, none⟩ (.int .u8 ((Y.toNat : Nat) : Int)) = W7 := ⟨_, rfl⟩
          have HI7 : Hid (PkI w.heap.size n p len c m wd w (.slice (some ⟨gb, 0, none⟩) m1 cap) (pkL b (T + 1)) T W7) := Lib.hid (by
            have h := (HSET.out q Y (by rw [← HM1.out]; omega)).1
            rw [hW7] at h
            rwa [← hs1.out, ← HY.out, ← HQ.out, HM1.out])
          have HK7 : Hid (KeepsOthers W W7 ∧ Below w.heap.size W W7) := Lib.hid (by
            have h := (HSET.out q Y (by rw [← HM1.out]; omega)).2
            rw [hW7] at h
            exact ⟨HK6.out.1.trans ((KeepsOthers.drew W6).trans (by rw [← hW7]; exact KeepsOthers.setCell _ _ _)), HK6.out.2.trans (((Below.refl _ W6).drew).trans h)⟩)
          have k6 : W7.cell? ⟨w.heap.size, 0, none⟩ = some (.int .u64 (m : Int)) := by have h := HI7.out.b6; simp [World.cell?, h]
          have kO : W7.cell? ⟨w.heap.size + 1 + 1, 0, none⟩ = some (.slice (some ⟨gb, 0, none⟩) m1 cap) := by have h := HI7.out.out; simp [World.cell?, h]
          have k10 : W7.cell? ⟨w.heap.size + 1 + 1 + 1, 0, none⟩ = some (.int .i64 (T : Int)) := by have h := HI7.out.b10; simp [World.cell?, h]
          have k10z : W7.frozen? ⟨w.heap.size + 1 + 1 + 1, 0, none⟩ = false := by have h := HI7.out.b10; simp [World.frozen?, h]
          have HI8 := Lib.hid (HI7.out.put10 (T + 1))
          have HK8 : Hid (KeepsOthers W (W7.setCell ⟨w.heap.size + 1 + 1 + 1, 0, none⟩ (.int .i64 ((T + 1 : Nat) : Int))) ∧ Below w.heap.size W (W7.setCell ⟨w.heap.size + 1 + 1 + 1, 0, none⟩ (.int .i64 ((T + 1 : Nat) : Int)))) := Lib.hid ⟨HK7.out.1.trans (KeepsOthers.setCell _ _ _), HK7.out.2.trans ((Below.refl _ W7).setCell (p := ⟨w.heap.size + 1 + 1 + 1, 0, none⟩) (by show w.heap.size ≤ w.heap.size + 1 + 1 + 1; omega) _)⟩
          clear hset hcell hfree hdis hXl hbt2 hpw
          refine region_round (S := fun W' => W'.cell? ⟨w.heap.size, 0, none⟩ = some (.int .u64 (m : Int)) ∧ W'.cell? ⟨w.heap.size + 1 + 1, 0, none⟩ = some (.slice (some ⟨gb, 0, none⟩) m1 cap) ∧ W'.cell? ⟨w.heap.size + 1 + 1 + 1, 0, none⟩ = some (.int .i64 (T : Int))) (by kernel_rfl) (by kernel_rfl) (fun ⟨_, _, h⟩ => h) ⟨d6, dO, d10⟩ (fun hHeld => ?_)
          refine wpAnyH_take (i := 0) (v := ?v17) rfl (by kernel_rfl) (by kernel_rfl) (by kernel_rfl) (fun _ _ _ h => h) (Or.inl ⟨by rfl, ?hy17⟩) (by assumption) ?rest17
          case hy17 =>
            intro W' hSw
            obtain ⟨e6, eO, e10⟩ := hSw
            go_simp
            with_reducible rfl
          simp only [List.getElem_toArray, List.getElem_cons_zero, Act.put, List.setIfInBounds_toArray, List.set_cons_zero, List.set_cons_succ]
          refine wpAnyH_take (i := 1) (v := ?v18) rfl (by kernel_rfl) (by kernel_rfl) (by kernel_rfl) (fun _ _ _ h => h) (Or.inl ⟨by rfl, ?hy18⟩) (by assumption) ?rest18
          case hy18 =>
            intro W' hSw
            obtain ⟨e6, eO, e10⟩ := hSw
            go_simp
            with_reducible rfl
          simp only [List.getElem_toArray, List.getElem_cons_zero, List.getElem_cons_succ, Act.put, List.setIfInBounds_toArray, List.set_cons_zero, List.set_cons_succ]
          refine wpAnyH_take (i := 2) (v := ?v19) rfl (by kernel_rfl) (by kernel_rfl) (by kernel_rfl) (fun _ _ _ h => h) (Or.inl ⟨by rfl, ?hy19⟩) (by assumption) ?rest19
          case hy19 =>
            intro W' hSw
            obtain ⟨e6, eO, e10⟩ := hSw
            go_simp
            with_reducible rfl
          simp only [List.getElem_toArray, List.getElem_cons_zero, List.getElem_cons_succ, Act.put, List.setIfInBounds_toArray, List.set_cons_zero, List.set_cons_succ]
          refine wpAnyH_take (i := 3) (v := ?v20) rfl (by kernel_rfl) (by kernel_rfl) (by kernel_rfl) (fun _ _ _ h => h) (Or.inl ⟨by rfl, ?hy20⟩) (by assumption) ?rest20
          case hy20 =>
            intro W' hSw
            obtain ⟨e6, eO, e10⟩ := hSw
            go_simp
            with_reducible rfl
          simp only [List.getElem_toArray, List.getElem_cons_zero, List.getElem_cons_succ, Act.put, List.setIfInBounds_toArray, List.set_cons_zero, List.set_cons_succ]
          refine wpAnyH_take (i := 5) (v := ?v21) rfl (by kernel_rfl) (by kernel_rfl) (by kernel_rfl) (fun _ _ _ h => h) (Or.inl ⟨by rfl, ?hy21⟩) (by assumption) ?rest21
          case hy21 =>
            intro W' hSw
            obtain ⟨e6, eO, e10⟩ := hSw
            go_simp
            with_reducible rfl
          simp only [List.getElem_toArray, List.getElem_cons_zero, List.getElem_cons_succ, Act.put, List.setIfInBounds_toArray, List.set_cons_zero, List.set_cons_succ]
          refine wpAnyH_take (i := 6) (v := ?v22) rfl (by kernel_rfl) (by kernel_rfl) (by kernel_rfl) (fun _ _ _ h => h) (Or.inl ⟨by rfl, ?hy22⟩) (by assumption) ?rest22
          case hy22 =>
            intro W' hSw
            obtain ⟨e6, eO, e10⟩ := hSw
            go_simp
            with_reducible rfl
          simp only [List.getElem_toArray, List.getElem_cons_zero, List.getElem_cons_succ, Act.put, List.setIfInBounds_toArray, List.set_cons_zero, List.set_cons_succ]
          refine wpAnyH_take (i := 7) (v := ?v23) rfl (by kernel_rfl) (by kernel_rfl) (by kernel_rfl) (fun _ _ _ h => h) (Or.inl ⟨by rfl, ?hy23⟩) (by assumption) ?rest23
          case hy23 =>
            intro W' hSw
            obtain ⟨e6, eO, e10⟩ := hSw
            go_simp
            with_reducible rfl
          simp only [List.getElem_toArray, List.getElem_cons_zero, List.getElem_cons_succ, Act.put, List.setIfInBounds_toArray, List.set_cons_zero, List.set_cons_succ]
          refine wpAnyH_take (i := 8) (v := ?v24) rfl (by kernel_rfl) (by kernel_rfl) (by kernel_rfl) (fun _ _ _ h => h) (Or.inl ⟨by rfl, ?hy24⟩) (by assumption) ?rest24
          case hy24 =>
            intro W' hSw
            obtain ⟨e6, eO, e10⟩ := hSw
            go_simp
            with_reducible rfl
          simp only [List.getElem_toArray, List.getElem_cons_zero, List.getElem_cons_succ, Act.put, List.setIfInBounds_toArray, List.set_cons_zero, List.set_cons_succ]
          refine wpAnyH_take (i := 9) (v := ?v25) rfl (by kernel_rfl) (by kernel_rfl) (by kernel_rfl) (fun _ _ _ h => h) (Or.inl ⟨by rfl, ?hy25⟩) (by assumption) ?rest25
          case hy25 =>
            intro W' hSw
            obtain ⟨e6, eO, e10⟩ := hSw
            go_simp
            with_reducible rfl
          simp only [List.getElem_toArray, List.getElem_cons_zero, List.getElem_cons_succ, Act.put, List.setIfInBounds_toArray, List.set_cons_zero, List.set_cons_succ]
          refine wpAnyH_take (i := 10) (v := ?v26) rfl (by kernel_rfl) (by kernel_rfl) (by kernel_rfl) (fun _ _ _ h => h) (Or.inl ⟨by rfl, ?hy26⟩) (by assumption) ?rest26
          case hy26 =>
            intro W' hSw
            obtain ⟨e6, eO, e10⟩ := hSw
            go_simp
            with_reducible rfl
          simp only [List.getElem_toArray, List.getElem_cons_zero, List.getElem_cons_succ, Act.put, List.setIfInBounds_toArray, List.set_cons_zero, List.set_cons_succ]
          refine wpAnyH_take (i := 11) (v := ?v27) rfl (by kernel_rfl) (by kernel_rfl) (by kernel_rfl) (fun _ _ _ h => h) (Or.inl ⟨by rfl, ?hy27⟩) (by assumption) ?rest27
          case hy27 =>
            intro W' hSw
            obtain ⟨e6, eO, e10⟩ := hSw
            go_simp
            with_reducible rfl
          simp only [List.getElem_toArray, List.getElem_cons_zero, List.getElem_cons_succ, Act.put, List.setIfInBounds_toArray, List.set_cons_zero, List.set_cons_succ]
          refine wpAnyH_take (i := 12) (v := ?v28) rfl (by kernel_rfl) (by kernel_rfl) (by kernel_rfl) (fun _ _ _ h => h) (Or.inl ⟨by rfl, ?hy28⟩) (by assumption) ?rest28
          case hy28 =>
            intro W' hSw
            obtain ⟨e6, eO, e10⟩ := hSw
            go_simp
            with_reducible rfl
          simp only [List.getElem_toArray, List.getElem_cons_zero, List.getElem_cons_succ, Act.put, List.setIfInBounds_toArray, List.set_cons_zero, List.set_cons_succ]
          refine wpAnyH_take (i := 13) (v := ?v29) rfl (by kernel_rfl) (by kernel_rfl) (by kernel_rfl) (fun _ _ _ h => h) (Or.inl ⟨by rfl, ?hy29⟩) (by assumption) ?rest29
          case hy29 =>
            intro W' hSw
            obtain ⟨e6, eO, e10⟩ := hSw
            go_simp
            with_reducible rfl
          simp only [List.getElem_toArray, List.getElem_cons_zero, List.getElem_cons_succ, Act.put, List.setIfInBounds_toArray, List.set_cons_zero, List.set_cons_succ]
          refine wpAnyH_take (i := 14) (v := ?v30) rfl (by kernel_rfl) (by kernel_rfl) (by kernel_rfl) (fun _ _ _ h => h) (Or.inl ⟨by rfl, ?hy30⟩) (by assumption) ?rest30
          case hy30 =>
            intro W' hSw
            obtain ⟨e6, eO, e10⟩ := hSw
            go_simp
            with_reducible rfl
          simp only [List.getElem_toArray, List.getElem_cons_zero, List.getElem_cons_succ, Act.put, List.setIfInBounds_toArray, List.set_cons_zero, List.set_cons_succ]
          refine wpAnyH_take (i := 15) (v := ?v31) rfl (by kernel_rfl) (by kernel_rfl) (by kernel_rfl) (fun _ _ _ h => h) (Or.inl ⟨by rfl, ?hy31⟩) (by assumption) ?rest31
          case hy31 =>
            intro W' hSw
            obtain ⟨e6, eO, e10⟩ := hSw
            go_simp
            with_reducible rfl
          simp only [List.getElem_toArray, List.getElem_cons_zero, List.getElem_cons_succ, Act.put, List.setIfInBounds_toArray, List.set_cons_zero, List.set_cons_succ]
          refine wpAnyH_ready (rs := [4]) (by kernel_rfl) (by simp) ?_
          refine AllReadyH.cons (i := 4) rfl (fun K hK => ?_) AllReadyH.nil
          go_simp
          refine hK.out _ _ (⟨d6, dO, d10⟩) (fun hHeld => ?_)
          clear hK K
          refine wpAnyH_ready (rs := [16]) (by kernel_rfl) (by simp) ?_
          refine AllReadyH.cons (i := 16) rfl (fun K hK => ?_) AllReadyH.nil
          go_simp
          try rw [hor]
          refine hK.out _ _ (⟨d6, dO, d10⟩) (fun hHeld => ?_)
          clear hK K
          refine wpAnyH_take (i := 17) (v := ?v32) rfl (by kernel_rfl) (by kernel_rfl) (by kernel_rfl) (fun _ _ _ h => h) (Or.inl ⟨by rfl, ?hy32⟩) (by assumption) ?rest32
          case hy32 =>
            intro W' hSw
            obtain ⟨e6, eO, e10⟩ := hSw
            go_simp
            with_reducible rfl
          simp only [List.getElem_toArray, List.getElem_cons_zero, List.getElem_cons_succ, Act.put, List.setIfInBounds_toArray, List.set_cons_zero, List.set_cons_succ]
          refine wpAnyH_ready (rs := [18]) (by kernel_rfl) (by simp) ?_
          refine AllReadyH.cons (i := 18) rfl (fun K hK => ?_) AllReadyH.nil
          go_simp
          try rw [hW7]
          refine hK.out _ _ (⟨k6, kO, k10⟩) (fun hHeld => ?_)
          clear hK K
          refine wpAnyH_done (by kernel_rfl) ?_ _
          clear hHeld d6 dO d10 c33 f33 hW7
          gi_wp2
          go_roundw
          case rel =>
            have e1 : ((T + 1 : Nat) : Int) = (T : Int) + 1 := by omega
            rw [e1] at HI8 HK8
            exact ⟨j + 1, _, by omega, by congr 1; rw [HBIT.out]; omega, Lib.hid (by rw [show T0 + (j + 1) = T + 1 by rw [HT.out]; omega]; exact HI8.out), HK8⟩
          case measure => simp [Go.RowKit.intOf]
      · obtain rfl : j = wd := by omega
        have ebit : (j : Int) - 1 - (j : Int) = -1 := by omega
        rw [ebit]
        gi_wp2
        exact HEND.out _ _ (by rw [← HT.out]; exact HI.out) HK2.out.1 HK2.out.2
  case done =>
    rintro D xs W hD hxs ⟨v, hI⟩ hK
    have hxl : xs.length = k := by have h := congrArg List.length hxs; rwa [List.length_map, List.length_range] at h
    rw [gP_all l n xs hxs, hxl, ← HR.out] at hI
    have cO : W.cell? ⟨w.heap.size + 1 + 1, 0, none⟩ = some v := by simp [World.cell?, hI.out]
    have hD5 := hI.keep (grownBy_putObj' W D (.deferred none)) (fun r e => by cases e; exact ⟨by omega, _, hK, rfl⟩) hI.lt
    have hfin := grew_none hD5.own hD5.bel
    clear hI hD5
    gi_wp2
    refine ⟨by simp, .inl ⟨_, _, rfl, run_takeDeferred hK, ?_⟩⟩
    refine ⟨_, ?_, v, rfl, hfin⟩
    simp [results, Tryz.f42, go_sem]
  case stop =>
    rintro D c pre W hD _ h
    exact h.elim
end Go.Proofs.YtpbcdmefngbjjaaGreatDoor
