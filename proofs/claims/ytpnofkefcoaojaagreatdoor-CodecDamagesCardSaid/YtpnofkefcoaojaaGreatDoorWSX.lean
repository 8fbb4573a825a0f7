/- Delta and Undelta of the program; where the size is refused. -/
import Derived.Test.YtpnofkefcoaojaaGreatDoorKC
import Derived.Test.YtpnofkefcoaojaaGreatDoorWDV
import Derived.Test.YtpnofkefcoaojaaGreatDoorWMG
import Derived.Lib.BitFns
import Derived.Shelf.Strconv.Itoa0
set_option maxHeartbeats 1600000
set_option maxRecDepth 100000
namespace Go.Proofs.YtpnofkefcoaojaaGreatDoor
open Go.RowKit
open Go.Lib
theorem own_nocap {w : World} {B : Nat} {q : Option Addr} {n d : Nat} {L : List UInt8} (h : w.ownsRow B 5 1 (.slice q n d) L.length (ubs L)) : q = none → d = 0 := by
  rintro rfl
  obtain ⟨-, ⟨h1, -⟩ | ⟨g, cap, cur, h1, -⟩⟩ := h
  · cases h1; rfl
  · cases h1
theorem delta_ok (p : Option Addr) (c n : Nat) (l : List UInt8) (w : World) (h1 : 1 ≤ n) (h2 : n ≤ 8) (hl : l.length ≤ 20000) (hc : l.length ≤ c) (hpc : p = none → c = 0) (hb : Bs w p l) :
    Calls Tryz.prog 98 #[.slice p l.length c, .int .i64 (n : Int)] w (RowPost (delL l n) w) := by
  have HBW : Hid (Below w.heap.size w (w.alloc (.cells #[.int .u64 0] 86))) := Lib.hid ((Below.refl _ w).alloc (Nat.le_refl _) _)
  have HC := Lib.hid (changed_33 p c n w.heap.size l (w.alloc (.cells #[.int .u64 0] 86)) h1 h2 hl hc hpc (hb.bsN.keep HBW.out) (World.alloc_heap_new w _))
  obtain ⟨R, HR⟩ : ∃ R, Hid (R = delL l n) := ⟨_, rfl⟩
  have e : chR dStep n (l.length / n) 0 l = R := HR.out.symm
  rw [e] at HC
  rw [← HR.out]
  clear e
  obtain ⟨len, HL⟩ : ∃ len, Hid (len = l.length) := ⟨_, rfl⟩
  rw [← HL.out] at hl hc HC ⊢
  clear hb hpc
  go_enter Tryz.func98, Tryz.ntmps98
  go_wp2_with fail
  refine (HC.out).mono ?_
  rintro e w' ⟨hb1, v, rfl, ho⟩
  obtain ⟨q, d, rfl, -, -⟩ := own_bytes ho
  have HO := Lib.hid ho
  obtain ⟨m, HM⟩ : ∃ m, Hid (m = R.length) := ⟨_, rfl⟩
  rw [← HM.out] at HO ⊢
  have HB := Lib.hid (HBW.out.trans hb1)
  clear ho hb1
  go_wp2_with fail
  go_ret2
  exact ⟨HB.out, _, rfl, by rw [← HM.out]; exact HO.out⟩
end Go.Proofs.YtpnofkefcoaojaaGreatDoor
set_option maxHeartbeats 2000000
set_option maxRecDepth 104857600
namespace Go.Proofs.YtpnofkefcoaojaaGreatDoor
open Go.RowKit Go.Shelf
open Go.Lib
theorem check_ok_w (p : Option Addr) (k c n : Nat) (w : World) (h1 : 1 ≤ n) (h2 : n ≤ 8) (hk : k ≤ 1048576) : Calls Tryz.prog 147 #[.slice p k c, .int .i64 (n : Int)] w fun e w' => e = .returned (.int .i64 0) ∧ w = w' := by
  have H := Lib.hid (size_ok n w h1 h2)
  have hk' : (k : Int) ≤ 1048576 := by omega
  clear h1 h2 hk
  go_enter Tryz.func147, Tryz.ntmps147
  go_wp2_with fail
  refine (H.out).mono ?_
  rintro e w' ⟨rfl, rfl⟩
  go_wp2_with fail
  go_ret
  exact ⟨rfl, rfl⟩
attribute [local go_sem] Oper.semAt_some
theorem it79_in_w (m : Nat) (hm : 1 ≤ m) (lr Bn Bb N0 n len k c : Nat) (l : List UInt8) (p : Option Addr) (HL : Hid (len = l.length)) (HK : Hid (k = len / n)) (hn1 : 1 ≤ n) (hn2 : n ≤ 8) (hlen : len ≤ 1048576) (hc : len ≤ c) (J Jx : List (Pl k) → World → Prop)
    (hY : ∀ pre x W, J pre W → pre.length < k → YieldAt Fence.wide (m - 1) Tryz.prog lr (nbE l n k x) W fun e W' =>
      (e = .returned (.bool true) ∧ J (pre ++ [x]) W' ∧ Keep3 N0 Bn Bb W W') ∨ (e = .returned (.bool false) ∧ Jx (pre ++ [x]) W'))
    (W : World) (hN : N0 ≤ W.heap.size) (hBn : W.cell? ⟨Bn, 0, none⟩ = some (.int .i64 (n : Int))) (hBb : W.cell? ⟨Bb, 0, none⟩ = some (.slice p len c)) (hbs : BsN N0 W p l) (h0 : J [] W) :
    CallsIn Fence.wide m Tryz.prog 222 #[.func (.yield lr) #[] #[], .pointer (some ⟨Bn, 0, none⟩), .pointer (some ⟨Bb, 0, none⟩)] W fun e W' => (∃ v, e = .returned v) ∧
      ((∃ ys, ys.map (·.1) = List.range k ∧ J ys W') ∨ (∃ pre, True ∧ Jx pre W')) := by
  have hni : 1 ≤ (n : Int) := by omega
  have hni2 : (n : Int) ≤ 8 := by omega
  have hli : (len : Int) ≤ 1048576 := by omega
  have HKN : Hid (k * n ≤ len ∧ len < k * n + n) := Lib.hid (by
    rw [HK.out]
    have h3 := Nat.div_add_mod len n
    have h4 := Nat.mod_lt len (show n > 0 by omega)
    rw [Nat.mul_comm] at h3; omega)
  have HBS := Lib.hid hbs
  clear hbs
  refine callsIn_of_wp Tryz.func222 rfl trivial ?_ rfl
  simp only [Tryz.ntmps222, List.size_toArray, List.length_cons, List.length_nil, Nat.reduceAdd, Nat.reduceSub, Array.replicate_succ, Array.replicate_zero, List.push_toArray, List.append_toArray, List.nil_append, List.cons_append]
  gi_wp2
  have HJ0 := Lib.hid h0
  gi_loopw [4] (fun tv wr => ∃ (t i : Nat) (pre : List (Pl k)), i ≤ k ∧ tv = .int .i64 t ∧ Hid (t = i * n) ∧ Hid (pre.map (·.1) = List.range i) ∧ Hid (J pre wr) ∧ Hid (Keep3 N0 Bn Bb W wr)) (fun tv _ => len - (intOf tv).toNat)
  case atStart => exact ⟨0, 0, [], Nat.zero_le _, rfl, Lib.hid (by rw [Nat.zero_mul]), rfl, HJ0, Lib.hid (Keep3.refl _ _ _ _)⟩
  case round =>
    obtain ⟨t, i, pre, hik, rfl, HT, HP, HJ, HB⟩ := hrel
    have hcn := HB.out.c1.trans hBn
    have hcb := HB.out.c2.trans hBb
    by_cases hilt : i < k
    · have htn : t + n ≤ len := by
        have h3 := HKN.out.1
        have h4 : (i + 1) * n ≤ k * n := Nat.mul_le_mul_right _ hilt
        rw [Nat.succ_mul] at h4
        rw [HT.out]; omega
      have htn' : (t : Int) + (n : Int) ≤ (len : Int) := by omega
      have hbs1 := (HBS.out.keep HB.out.1).bs (Nat.le_trans hN HB.out.1.size)
      obtain ⟨b0, off, rfl, -, -⟩ := at_cell hbs1 (t := 0) (by rw [← HL.out]; omega)
      have hsub : Hid (Bs wr (some ⟨b0, off + t, none⟩) ((l.drop t).take n)) := Lib.hid (bs_sub hbs1 t n (by rw [← HL.out]; omega) rfl)
      obtain ⟨s, HS⟩ : ∃ s, Hid (s = (l.drop t).take n) := ⟨_, rfl⟩
      rw [← HS.out] at hsub
      have hsl : s.length = n := by rw [HS.out, List.length_take, List.length_drop, ← HL.out]; omega
      have HR := Lib.hid (bnumber_any (some ⟨b0, off + t, none⟩) (c - t) s wr (by omega) hsub.out)
      rw [hsl] at HR
      obtain ⟨x, HX⟩ : ∃ x : Nat, Hid (x = nb s) := ⟨_, rfl⟩
      rw [← HX.out] at HR
      obtain ⟨fn, tmps, assign, body, hy, hRo⟩ := hY pre ⟨i, hilt⟩ wr HJ.out (by
        have h := congrArg List.length HP.out
        rw [List.length_map, List.length_range] at h; omega)
      have hy2 : (Instr.yield lr #[.int .u64 (x : Int)]).run Tryz.prog wr = .ok (.round lr fn tmps assign body) wr := by
        rw [HX.out, HS.out, HT.out]; exact hy
      clear hy hbs1 hsl
      gi_wp2_with (refine ⟨trivial, ?_⟩; gi_at_call 197; refine (callsIn_wide.2 HR.out).mono ?_; rintro e w' ⟨rfl, rfl⟩)
      refine hRo.mono ?_
      rintro e W3 (⟨rfl, hJ3, hk3⟩ | ⟨rfl, hJx3⟩)
      · have HB3 := Lib.hid (HB.out.trans hk3)
        have HJ3 := Lib.hid hJ3
        have hcn3 := HB3.out.c1.trans hBn
        clear hJ3 hk3 hy2
        gi_wp2
        go_roundw
        case rel => exact ⟨t + n, i + 1, pre ++ [⟨i, hilt⟩], by omega, by go_num, Lib.hid (by rw [HT.out, Nat.succ_mul]), Lib.hid (by rw [List.map_append, HP.out, List.range_succ]; rfl), HJ3, HB3⟩
        case measure => simp [intOf]; omega
      · gi_wp2
        refine bodyPost_ret (results_none rfl _ _ _) rfl ?_
        exact ⟨⟨_, rfl⟩, .inr ⟨_, trivial, hJx3⟩⟩
    · obtain rfl : i = k := by omega
      have htn' : ¬ (t : Int) + (n : Int) ≤ (len : Int) := by rw [HT.out]; have := HKN.out.2; omega
      have htl : t ≤ len := by rw [HT.out]; exact HKN.out.1
      have hti : (t : Int) ≤ 1048576 := by omega
      gi_wp2
      go_end0
      exact ⟨⟨_, rfl⟩, .inl ⟨pre, HP.out, HJ.out⟩⟩
theorem numbers_stops_w (m : Nat) (hm : 1 ≤ m) (Bn Bb N0 n len k c : Nat) (l : List UInt8) (p : Option Addr) (HL : Hid (len = l.length)) (HK : Hid (k = len / n)) (hn1 : 1 ≤ n) (hn2 : n ≤ 8) (hlen : len ≤ 1048576) (hc : len ≤ c) (w : World) (hN : N0 ≤ w.heap.size) (hB1 : Bn < w.heap.size) (hB2 : Bb < w.heap.size)
    (hBn : w.cell? ⟨Bn, 0, none⟩ = some (.int .i64 (n : Int))) (hBb : w.cell? ⟨Bb, 0, none⟩ = some (.slice p len c)) (hbs : BsN N0 w p l) :
    SeqStopsK Fence.wide m Tryz.prog 222 #[.pointer (some ⟨Bn, 0, none⟩), .pointer (some ⟨Bb, 0, none⟩)] (nbE l n k) (Keep3 N0 Bn Bb) (fun ys => ys.map (·.1) = List.range k) (fun _ => True) k w := fun lr J Jx W hW _ _ hY h0 =>
  it79_in_w m hm lr Bn Bb N0 n len k c l p HL HK hn1 hn2 hlen hc J Jx hY W (Nat.le_trans hN hW.size) ((hW.cell (p := ⟨Bn, 0, none⟩) hB1).trans hBn) ((hW.cell (p := ⟨Bb, 0, none⟩) hB2).trans hBb) (hbs.keep (hW.mono hN)) h0
theorem rest_some_w (b0 off c n t len : Nat) (l : List UInt8) (w : World) (h1 : 1 ≤ n) (h2 : n ≤ 8) (HL : Hid (len = l.length)) (hl : len ≤ 1048576) (hc : len ≤ c) (HT : Hid (t = len / n * n)) (hb : Bs w (some ⟨b0, off, none⟩) l) :
    Calls Tryz.prog 151 #[.slice (some ⟨b0, off, none⟩) len c, .int .i64 (n : Int)] w (RestPost (l.drop t) (len - t) w) := by
  have hn1 : 1 ≤ (n : Int) := by omega
  have hn8 : (n : Int) ≤ 8 := by omega
  have hlen : (len : Int) ≤ 1048576 := by omega
  have htl : t ≤ len := by rw [HT.out]; exact Nat.div_mul_le_self _ _
  have hend : wrap64 ((len : Int) - (len : Int) % (n : Int)) = (t : Int) := by
    have h3 := Nat.div_add_mod len n
    rw [Nat.mul_comm, ← HT.out] at h3
    have h4 : (len : Int) - (len : Int) % (n : Int) = (t : Int) := by omega
    rw [h4]
    unfold wrap64; omega
  have HB := Lib.hid hb
  clear hb
  by_cases hct : c = t
  · subst hct
    obtain rfl : len = c := by omega
    go_enter Tryz.func151, Tryz.ntmps151
    go_wp2_with fail
    rw [hend]
    go_wp2_with fail
    go_ret
    exact ⟨rfl, some ⟨b0, off, none⟩, 0, by simp, .inl (by rw [HL.out, List.drop_length]; rfl)⟩
  · have hct' : t < c := by omega
    go_enter Tryz.func151, Tryz.ntmps151
    go_wp2_with fail
    rw [hend]
    go_wp2_with fail
    go_ret
    exact ⟨rfl, _, _, rfl, bs_tail HB.out t (by rw [← HL.out]; exact htl) rfl⟩
theorem rest_any_w (p : Option Addr) (c n t len : Nat) (l : List UInt8) (w : World) (h1 : 1 ≤ n) (h2 : n ≤ 8) (HL : Hid (len = l.length)) (hl : len ≤ 1048576) (hc : len ≤ c) (hpc : p = none → c = 0) (HT : Hid (t = len / n * n)) (hb : Bs w p l) :
    Calls Tryz.prog 151 #[.slice p len c, .int .i64 (n : Int)] w (RestPost (l.drop t) (len - t) w) := by
  rcases hb with h0 | ⟨b, off, rfl, h3, h4⟩
  · obtain rfl := List.eq_nil_of_length_eq_zero h0
    obtain rfl : len = 0 := HL.out
    obtain rfl : t = 0 := by rw [HT.out, Nat.zero_div, Nat.zero_mul]
    exact rest_nil p c n w h1 h2 hpc
  · exact rest_some_w b off c n t len l w h1 h2 HL hl hc HT (.inr ⟨b, off, rfl, h3, h4⟩)
end Go.Proofs.YtpnofkefcoaojaaGreatDoor
namespace Go.Proofs.YtpnofkefcoaojaaGreatDoor
def bv (b : Nat → Nat) (q : Nat) : Nat → Nat
  | 0 => 0
  | r + 1 => bv b q r + b (8 * q + r) * 2 ^ (7 - r)
theorem bv_dvd (b : Nat → Nat) (q : Nat) : ∀ r, r ≤ 8 → 2 ^ (8 - r) ∣ bv b q r
  | 0, _ => ⟨0, rfl⟩
  | r + 1, h => by
    have h1 := bv_dvd b q r (by omega)
    have e : 8 - r = (7 - r) + 1 := by omega
    rw [e, Nat.pow_succ] at h1
    have h2 : 2 ^ (7 - r) ∣ bv b q r := Nat.dvd_trans ⟨2, rfl⟩ h1
    have e2 : 8 - (r + 1) = 7 - r := by omega
    rw [e2, bv]
    exact Nat.dvd_add h2 ⟨_, Nat.mul_comm _ _⟩
theorem bv_lt (b : Nat → Nat) (hb : ∀ t, b t < 2) (q : Nat) : ∀ r, r ≤ 8 → bv b q r + 2 ^ (8 - r) ≤ 256
  | 0, _ => by rw [bv]; decide
  | r + 1, h => by
    have h1 := bv_lt b hb q r (by omega)
    have e : 8 - r = (7 - r) + 1 := by omega
    rw [e, Nat.pow_succ] at h1
    have e2 : 8 - (r + 1) = 7 - r := by omega
    have h3 : b (8 * q + r) * 2 ^ (7 - r) ≤ 1 * 2 ^ (7 - r) := Nat.mul_le_mul_right _ (by have := hb (8 * q + r); omega)
    rw [e2, bv]; omega
theorem bv_u8 (b : Nat → Nat) (hb : ∀ t, b t < 2) (q : Nat) {r : Nat} (h : r ≤ 8) : (UInt8.ofNat (bv b q r)).toNat = bv b q r := by
  rw [UInt8.toNat_ofNat']
  refine Nat.mod_eq_of_lt ?_
  have := bv_lt b hb q r h
  have h2 : 0 < 2 ^ (8 - r) := Nat.pow_pos (by decide)
  show _ < 256
  omega
theorem bv_or (b : Nat → Nat) (hb : ∀ t, b t < 2) (q : Nat) {r : Nat} (h : r < 8) : bv b q r ||| b (8 * q + r) * 2 ^ (7 - r) = bv b q (r + 1) := by
  obtain ⟨a, ha⟩ := bv_dvd b q r (by omega)
  have hlt : b (8 * q + r) * 2 ^ (7 - r) < 2 ^ (8 - r) := by
    have e : 8 - r = (7 - r) + 1 := by omega
    have h3 : b (8 * q + r) * 2 ^ (7 - r) ≤ 1 * 2 ^ (7 - r) := Nat.mul_le_mul_right _ (by have := hb (8 * q + r); omega)
    have h2 : 0 < 2 ^ (7 - r) := Nat.pow_pos (by decide)
    rw [e, Nat.pow_succ]; omega
  rw [bv, ha, Nat.two_pow_add_eq_or_of_lt hlt]
def pkL (b : Nat → Nat) (T : Nat) : List UInt8 := (List.range ((T + 7) / 8)).map fun q => UInt8.ofNat (bv b q (min 8 (T - 8 * q)))
theorem pkL_length (b : Nat → Nat) (T : Nat) : (pkL b T).length = (T + 7) / 8 := by simp [pkL]
theorem pkL_at (b : Nat → Nat) {T q : Nat} (h : q < (T + 7) / 8) : (pkL b T).getD q 0 = UInt8.ofNat (bv b q (min 8 (T - 8 * q))) := by
  rw [List.getD_eq_getElem?_getD, pkL, List.getElem?_map, List.getElem?_range h]; rfl
theorem pkL_new (b : Nat → Nat) {T : Nat} (h : T % 8 = 0) : pkL b (T + 1) = pkL b T ++ [UInt8.ofNat (bv b (T / 8) 1)] := by
  have e1 : (T + 1 + 7) / 8 = (T + 7) / 8 + 1 := by omega
  have e2 : (T + 7) / 8 = T / 8 := by omega
  rw [pkL, e1, List.range_succ, List.map_append, List.map_cons, List.map_nil, e2]
  have e3 : min 8 (T + 1 - 8 * (T / 8)) = 1 := by omega
  rw [e3, pkL, e2]
  congr 1
  refine List.map_congr_left fun q hq => ?_
  rw [List.mem_range] at hq
  have e4 : min 8 (T + 1 - 8 * q) = min 8 (T - 8 * q) := by omega
  rw [e4]
theorem pkL_old (b : Nat → Nat) {T : Nat} (h : T % 8 ≠ 0) : pkL b (T + 1) = (pkL b T).set (T / 8) (UInt8.ofNat (bv b (T / 8) (T % 8 + 1))) := by
  have e1 : (T + 1 + 7) / 8 = (T + 7) / 8 := by omega
  refine List.ext_getElem? fun q => ?_
  rw [List.getElem?_set, pkL, pkL, e1]
  by_cases hq : q < (T + 7) / 8
  · rw [List.getElem?_map, List.getElem?_range hq, Option.map_some]
    by_cases e : T / 8 = q
    · rw [if_pos e, if_pos (by rw [List.length_map, List.length_range]; omega), ← e]
      have e3 : min 8 (T + 1 - 8 * (T / 8)) = T % 8 + 1 := by omega
      rw [e3]
    · rw [if_neg e, List.getElem?_map, List.getElem?_range hq, Option.map_some]
      have e4 : min 8 (T + 1 - 8 * q) = min 8 (T - 8 * q) := by omega
      rw [e4]
  · rw [List.getElem?_eq_none (by rw [List.length_map, List.length_range]; omega), if_neg (by omega), List.getElem?_eq_none (by rw [List.length_map, List.length_range]; omega)]
abbrev bl (x : Nat) : Nat := Lib.bitLen x
theorem aux_le : ∀ (f x : Nat), Lib.bitLenAux f x ≤ f
  | 0, _ => Nat.le_refl _
  | f + 1, x => by
    rw [Lib.bitLenAux]
    split
    · omega
    · have := aux_le f (x / 2); omega
theorem bl_le (x : Nat) : bl x ≤ 64 := aux_le 64 x
def mnL (gs : List Nat) : Nat := gs.foldl min 18446744073709551615
def mxL (gs : List Nat) : Nat := gs.foldl max 0
theorem foldmin_le : ∀ (gs : List Nat) (a : Nat), gs.foldl min a ≤ a ∧ ∀ g ∈ gs, gs.foldl min a ≤ g
  | [], _ => ⟨Nat.le_refl _, fun _ h => by cases h⟩
  | x :: gs, a => by
    have h := foldmin_le gs (min a x)
    refine ⟨Nat.le_trans h.1 (Nat.min_le_left _ _), fun g hg => ?_⟩
    rw [List.mem_cons] at hg
    rcases hg with rfl | hg
    · exact Nat.le_trans h.1 (Nat.min_le_right _ _)
    · exact h.2 g hg
theorem foldmax_ge : ∀ (gs : List Nat) (a : Nat), a ≤ gs.foldl max a ∧ ∀ g ∈ gs, g ≤ gs.foldl max a
  | [], _ => ⟨Nat.le_refl _, fun _ h => by cases h⟩
  | x :: gs, a => by
    have h := foldmax_ge gs (max a x)
    refine ⟨Nat.le_trans (Nat.le_max_left _ _) h.1, fun g hg => ?_⟩
    rw [List.mem_cons] at hg
    rcases hg with rfl | hg
    · exact Nat.le_trans (Nat.le_max_right _ _) h.1
    · exact h.2 g hg
theorem mnL_le {gs : List Nat} {g : Nat} (h : g ∈ gs) : mnL gs ≤ g := (foldmin_le gs _).2 g h
theorem mxL_ge {gs : List Nat} {g : Nat} (h : g ∈ gs) : g ≤ mxL gs := (foldmax_ge gs _).2 g h
theorem foldmax_lt {M : Nat} : ∀ (gs : List Nat) (a : Nat), a < M → (∀ g ∈ gs, g < M) → gs.foldl max a < M
  | [], _, h, _ => h
  | x :: gs, _, h, hg => foldmax_lt gs _ (Nat.max_lt.2 ⟨h, hg x List.mem_cons_self⟩) (fun g h1 => hg g (List.mem_cons_of_mem _ h1))
theorem mxL_lt {gs : List Nat} (h : ∀ g ∈ gs, g < W64) : mxL gs < W64 := foldmax_lt gs 0 (by decide) h
theorem mnL_lt (gs : List Nat) : mnL gs < W64 := Nat.lt_of_le_of_lt (foldmin_le gs _).1 (by decide)
theorem mnL_mxL {gs : List Nat} (h : gs ≠ []) : mnL gs ≤ mxL gs := by
  cases gs with
  | nil => exact absurd rfl h
  | cons x gs => exact Nat.le_trans (mnL_le List.mem_cons_self) (mxL_ge List.mem_cons_self)
def wdL (gs : List Nat) : Nat := bl (mxL gs - mnL gs)
def btF (gs : List Nat) (m w t : Nat) : Nat := (gs.getD (t / w) 0 - m) / 2 ^ (w - 1 - t % w) % 2
theorem btF_lt (gs : List Nat) (m w t : Nat) : btF gs m w t < 2 := Nat.mod_lt _ (by decide)
theorem btF_at (gs : List Nat) (m : Nat) {w i j : Nat} (hj : j < w) : btF gs m w (i * w + j) = (gs.getD i 0 - m) / 2 ^ (w - 1 - j) % 2 := by
  have h1 : (i * w + j) / w = i := by rw [Nat.mul_comm, Nat.mul_add_div (by omega), Nat.div_eq_of_lt hj, Nat.add_zero]
  have h2 : (i * w + j) % w = j := by rw [Nat.mul_comm, Nat.mul_add_mod, Nat.mod_eq_of_lt hj]
  rw [btF, h1, h2]
def pkF (gs : List Nat) : List UInt8 := pkL (btF gs (mnL gs) (wdL gs)) (gs.length * wdL gs)
def pkB (n : Nat) (gs : List Nat) : List UInt8 := if gs.length = 0 then be 4 0 else be 4 gs.length ++ be n (mnL gs) ++ [UInt8.ofNat (wdL gs)] ++ pkF gs
def pacL (n : Nat) (gs : List Nat) (rest : List UInt8) : List UInt8 := pkB n gs ++ rest
end Go.Proofs.YtpnofkefcoaojaaGreatDoor
namespace Go.Proofs
open Go.Shelf
def Tryz.lays129_ren : Go.Shelf.Ren := ⟨fun | 129 => 190 | n => n, fun | 3 => 3 | 4 => 4 | 5 => 5 | 9 => 9 | 46 => 50 | 53 => 86 | n => n, fun | s => s⟩
theorem Tryz.lays129 : Go.Proofs.Lays.n129 Tryz.prog Tryz.lays129_ren := {
  mixed := by kernel_rfl
  f129 := Tryz.func190.trans (congrArg some (by kernel_rfl))
  t3 := Tryz.underlying3
  a3 := Tryz.isAgg3
  z3 := Tryz.sizeOf3
  v3 := Tryz.zeroValue3
  t4 := Tryz.underlying4
  a4 := Tryz.isAgg4
  z4 := Tryz.sizeOf4
  v4 := Tryz.zeroValue4
  t5 := Tryz.underlying5
  a5 := Tryz.isAgg5
  z5 := Tryz.sizeOf5
  v5 := Tryz.zeroValue5
  t9 := Tryz.underlying9
  a9 := Tryz.isAgg9
  z9 := Tryz.sizeOf9
  v9 := Tryz.zeroValue9
  t46 := Tryz.underlying50
  a46 := Tryz.isAgg50
  z46 := Tryz.sizeOf50
  v46 := Tryz.zeroValue50
  t53 := Tryz.underlying86
  a53 := Tryz.isAgg86
  z53 := Tryz.sizeOf86
  v53 := Tryz.zeroValue86 }
theorem Tryz.len64_any (x : Nat) (w : World) (h : x < 18446744073709551616) : Calls Tryz.prog 190 #[.int .u64 (x : Int)] w fun e w' => e = .returned (.int .i64 (Lib.bitLen x : Int)) ∧ w = w' :=
  (Any.bits_Len64 Tryz.lays129 (x : Int) w (by omega) (by omega)).mono fun e w' ⟨h1, h2⟩ => ⟨by rw [h1, Int.toNat_natCast], h2.symm⟩
end Go.Proofs
