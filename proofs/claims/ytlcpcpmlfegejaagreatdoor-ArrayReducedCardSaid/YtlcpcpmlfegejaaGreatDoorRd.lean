/- Fractions with a sign, and the rational numbers that they stand for. -/
import Derived.Test.YtlcpcpmlfegejaaGreatDoorRc
import Derived.Deep.LoopGhost
import Derived.Deep.RegionHeld3
import Derived.Deep.RegionWith
set_option maxHeartbeats 3200000
set_option maxRecDepth 100000
namespace Go.Proofs.YtlcpcpmlfegejaaGreatDoor
open Go.RowKit Big
variable {B : Nat} {s : Bool} {u1 v1 : Value} {t : Bool} {u2 v2 : Value} {w0 W W' : World}
end Go.Proofs.YtlcpcpmlfegejaaGreatDoor
namespace Big
theorem natCast_ne {b : Nat} (h : 0 < b) : (b : Rat) ≠ 0 := by
  intro e
  have : ((b : Int) : Rat) = ((0 : Int) : Rat) := by simpa using e
  have := Rat.intCast_inj.1 this
  omega
theorem ratv_drop (s : Bool) (a b : Nat) : ratv (s && !(a == 0)) a b = ratv s a b := by
  cases s
  · rfl
  · by_cases h : a = 0
    · subst h; simp [ratv]
    · have h1 : (a == 0) = false := by simpa using h
      rw [h1]; rfl
theorem ratv_scale {s : Bool} {a b k : Nat} (hb : 0 < b) (hk : 0 < k) : ratv s (a * k) (b * k) = ratv s a b := by
  have h1 := natCast_ne hb
  have h2 := natCast_ne hk
  unfold ratv
  rw [Rat.natCast_mul, Rat.natCast_mul]
  cases s <;> simp <;> grind
theorem ratv_plus {s : Bool} {a c m : Nat} : ratv s (a + c) m = ratv s a m + ratv s c m := by
  unfold ratv
  rw [Rat.natCast_add]
  cases s <;> simp <;> grind
theorem cast_sub {a c : Nat} (h : c ≤ a) : ((a - c : Nat) : Rat) = (a : Rat) - (c : Rat) := by
  have : ((a - c + c : Nat) : Rat) = (a : Rat) := by rw [Nat.sub_add_cancel h]
  rw [Rat.natCast_add] at this
  grind
theorem ratv_minus {s t : Bool} {a c m : Nat} (h : s ≠ t) (hle : c ≤ a) : ratv s (a - c) m = ratv s a m + ratv t c m := by
  unfold ratv
  rw [cast_sub hle]
  cases s <;> cases t <;> simp at h ⊢ <;> grind
end Big
set_option maxHeartbeats 1600000
set_option maxRecDepth 100000
namespace Go.Proofs.YtlcpcpmlfegejaaGreatDoor
open Go.RowKit Go.Lib Big
end Go.Proofs.YtlcpcpmlfegejaaGreatDoor
namespace Go.Proofs.YtlcpcpmlfegejaaGreatDoor
open Go.Lib Big
theorem numText_txt' {s : Bool} {a b : Nat} (hb : 0 < b) : numText (s && !(a == 0)) a b = txt (ratv (s && !(a == 0)) a b) :=
  numText_txt hb (by intro h; simp at h; omega)
theorem ratv_self (q : Rat) : ratv (decide (q.num < 0)) q.num.natAbs q.den = q := by
  have h : (if decide (q.num < 0) = true then -((q.num.natAbs : Nat) : Rat) else ((q.num.natAbs : Nat) : Rat)) = (q.num : Rat) := by
    by_cases h : q.num < 0
    · simp only [h, decide_true, if_true]
      have : ((q.num.natAbs : Nat) : Int) = - q.num := by omega
      have h2 : (((q.num.natAbs : Nat) : Int) : Rat) = ((- q.num : Int) : Rat) := by rw [this]
      rw [Rat.intCast_natCast, Rat.intCast_neg] at h2
      rw [h2, Rat.neg_neg]
    · simp only [h, decide_false, Bool.false_eq_true, if_false]
      have : ((q.num.natAbs : Nat) : Int) = q.num := by omega
      have h2 : (((q.num.natAbs : Nat) : Int) : Rat) = ((q.num : Int) : Rat) := by rw [this]
      rw [Rat.intCast_natCast] at h2
      exact h2
  unfold ratv
  rw [h]
  have h2 : q = mkRat q.num q.den := (Rat.mkRat_self q).symm
  rw [Rat.mkRat_eq_div] at h2
  exact h2.symm
theorem dec_big {u : Nat} (h : ¬ u < 10) : decDigits u = decDigits (u / 10) ++ [UInt8.ofNat (48 + u % 10)] := by rw [decDigits, dif_neg h]
theorem dig_isDig {k : Nat} (h : k < 10) : isDig (UInt8.ofNat (48 + k)) = true ∧ (UInt8.ofNat (48 + k)).toNat - 48 = k := by
  have : (UInt8.ofNat (48 + k)).toNat = 48 + k := by
    rw [UInt8.toNat_ofNat']; omega
  unfold isDig
  rw [this]
  simp; omega
theorem dec_all (u : Nat) : (decDigits u).all isDig = true ∧ dval (decDigits u) = u := by
  induction u using Nat.strongRecOn with
  | _ u ih =>
    by_cases h : u < 10
    · rw [decDigits_one h]
      obtain ⟨h1, h2⟩ := dig_isDig h
      refine ⟨by rw [List.all_cons, h1]; rfl, ?_⟩
      show 0 * 10 + ((UInt8.ofNat (48 + u)).toNat - 48) = u
      rw [h2]; omega
    · rw [dec_big h]
      obtain ⟨h1, h2⟩ := dig_isDig (k := u % 10) (by omega)
      obtain ⟨h3, h4⟩ := ih (u / 10) (by omega)
      refine ⟨by rw [List.all_append, h3, List.all_cons, h1]; rfl, ?_⟩
      rw [dval_append, h4]
      show u / 10 * 10 ^ 1 + (0 * 10 + ((UInt8.ofNat (48 + u % 10)).toNat - 48)) = u
      rw [h2]; omega
theorem dec_ne (u : Nat) : decDigits u ≠ [] := by
  intro h
  have h1 := decDigits_length u
  rw [h] at h1
  have := nDigits_pos u
  simp at h1; omega
theorem isDig_ne {l : List UInt8} {c : UInt8} (h : l.all isDig = true) (hc : isDig c = false) : c ∉ l := by
  intro hm
  rw [List.all_eq_true] at h
  rw [h c hm] at hc; cases hc
theorem index_one_none {l : List UInt8} {c : UInt8} (h : c ∉ l) : Lib.index l [c] = -1 := by
  apply Lib.index_none
  intro j _
  unfold Lib.occAt
  cases hd : l.drop j with
  | nil => rfl
  | cons b t =>
    have hb : b ∈ l := List.mem_of_mem_drop (by rw [hd]; simp)
    have : (c == b) = false := by rw [beq_eq_false_iff_ne]; rintro rfl; exact h hb
    simp [List.isPrefixOf, this]
theorem cut_none {l : List UInt8} {c : UInt8} (h : c ∉ l) : Lib.cut l [c] = (l, [], false) := by
  unfold Lib.cut
  rw [index_one_none h, if_neg (by decide)]
theorem cut_at {a b : List UInt8} {c : UInt8} (h : c ∉ a) : Lib.cut (a ++ c :: b) [c] = (a, b, true) := by
  have hi : Lib.index (a ++ c :: b) [c] = a.length := by
    apply Lib.index_first
    · simp
    · unfold Lib.occAt; rw [List.drop_left]; simp [List.isPrefixOf]
    · intro j hj
      unfold Lib.occAt
      rw [List.drop_append_of_le_length (by omega)]
      cases hd : a.drop j with
      | nil => have := congrArg List.length hd; simp at this; omega
      | cons x t =>
        have hb : x ∈ a := List.mem_of_mem_drop (by rw [hd]; simp)
        have : (c == x) = false := by rw [beq_eq_false_iff_ne]; rintro rfl; exact h hb
        simp [List.isPrefixOf, this]
  unfold Lib.cut
  rw [hi, if_pos (by omega)]
  simp
theorem wrote_ne (s : Bool) (n d : Nat) : wrote s n d ≠ [] := by
  unfold wrote
  simp [dec_ne]
end Go.Proofs.YtlcpcpmlfegejaaGreatDoor
set_option maxHeartbeats 3200000
set_option maxRecDepth 100000
namespace Go.Proofs.YtlcpcpmlfegejaaGreatDoor
open Go.RowKit Big
section
variable {B : Nat} {s : Bool} {u1 v1 : Value} {t : Bool} {u2 v2 : Value} {w0 W W' : World}
end
section
variable {W : World}
theorem nat_seta {g : Nat} {z0 z1 z2 : Value} (hz : W.heap[g]? = some (.cells #[z0, z1, z2] 100 (0, 0))) (n0 : NoInt z0) (n1 : NoInt z1) (n2 : NoInt z2) {v : Value} {x : Nat} (hx : Nat9 W v x) (k : Nat) (a : Value) : Nat9 (W.setCell ⟨g, k, none⟩ a) v x := by
  obtain ⟨p, n, c, l, h1, h2, hr, h4⟩ := hx
  refine ⟨p, n, c, l, h1, h2, ⟨hr.len, ?_⟩, h4⟩
  rcases hr.cell with h0 | ⟨b, off, hp, hlt, hc⟩
  · exact .inl h0
  · by_cases hn : n = 0
    · exact .inl hn
    refine .inr ⟨b, off, hp, by rw [World.size_setCell]; exact hlt, fun j hj => ?_⟩
    have hne : b ≠ g := by
      rintro rfl
      have h1 := hc 0 (by omega)
      rw [ceh hz] at h1
      match hoff : off + 0, h1 with
      | 0, h1 => simp at h1; exact n0 _ _ h1
      | 1, h1 => simp at h1; exact n1 _ _ h1
      | 2, h1 => simp at h1; exact n2 _ _ h1
      | k + 3, h1 => simp at h1
    rw [← hc j hj]
    exact World.cell?_of_block (w := W) (Below.heap_setCell _ _ _ _ hne)
end
structure Resa (B : Nat) (w0 W : World) : Prop where
  size : B + 1 ≤ W.heap.size
  below : Below w0.heap.size w0 W
  z : ∃ z0 z1 z2, W.heap[B]? = some (.cells #[z0, z1, z2] 100 (0, 0)) ∧ NoInt z0 ∧ NoInt z1 ∧ NoInt z2
section
variable {B : Nat} {w0 W W' : World}
theorem Resa.next (h : Resa B w0 W) (hb : Below W.heap.size W W') : Resa B w0 W' := by
  have hs := h.size
  exact ⟨Nat.le_trans hs hb.size, h.below.trans (hb.mono h.below.size), h.z.elim fun z0 k => k.elim fun z1 k => k.elim fun z2 k => ⟨z0, z1, z2, (hb.block _ (by omega)).trans k.1, k.2⟩⟩
theorem Resa.slots (h : Resa B w0 W) : ∃ z0 z1 z2, W.cell? ⟨B, 0, none⟩ = some z0 ∧ W.cell? ⟨B, 1, none⟩ = some z1 ∧ W.cell? ⟨B, 2, none⟩ = some z2 ∧ W.frozen? ⟨B, 0, none⟩ = false ∧ W.frozen? ⟨B, 1, none⟩ = false ∧ W.frozen? ⟨B, 2, none⟩ = false := by
  obtain ⟨z0, z1, z2, hz, -⟩ := h.z
  exact ⟨z0, z1, z2, ceh hz 0, ceh hz 1, ceh hz 2, foh hz 0, foh hz 1, foh hz 2⟩
theorem Resa.put1 (h : Resa B w0 W) (hB : w0.heap.size ≤ B) (k : Nat) (hk : k < 3) (a : Value) (ha : NoInt a) : Resa B w0 (W.setCell ⟨B, k, none⟩ a) := by
  obtain ⟨z0, z1, z2, hz, n0, n1, n2⟩ := h.z
  refine ⟨by rw [World.size_setCell]; exact h.size, h.below.setCell (by simp; omega) _, ?_⟩
  have h1 := heap_set B k _ 100 a hz
  match k, hk with
  | 0, _ => exact ⟨_, _, _, h1, ha, n1, n2⟩
  | 1, _ => exact ⟨_, _, _, h1, n0, ha, n2⟩
  | 2, _ => exact ⟨_, _, _, h1, n0, n1, ha⟩
theorem Resa.put3 (h : Resa B w0 W) (hB : w0.heap.size ≤ B) (a : Bool) (p q : Option Addr) (n c m d : Nat) : Resa B w0 (((W.setCell ⟨B, 0, none⟩ (.bool a)).setCell ⟨B, 1, none⟩ (.slice p n c)).setCell ⟨B, 2, none⟩ (.slice q m d)) :=
  ((h.put1 hB 0 (by omega) _ (noInt_bool _)).put1 hB 1 (by omega) _ (noInt_slice _ _ _)).put1 hB 2 (by omega) _ (noInt_slice _ _ _)
theorem Resa.nat1 (h : Resa B w0 W) {v : Value} {x : Nat} (hx : Nat9 W v x) (k : Nat) (a : Value) : Nat9 (W.setCell ⟨B, k, none⟩ a) v x := by
  obtain ⟨z0, z1, z2, hz, n0, n1, n2⟩ := h.z
  exact nat_seta hz n0 n1 n2 hx k a
theorem Resa.nat3 (h : Resa B w0 W) (hB : w0.heap.size ≤ B) {v : Value} {x : Nat} (hx : Nat9 W v x) (a : Bool) (p q : Option Addr) (n c m d : Nat) : Nat9 (((W.setCell ⟨B, 0, none⟩ (.bool a)).setCell ⟨B, 1, none⟩ (.slice p n c)).setCell ⟨B, 2, none⟩ (.slice q m d)) v x :=
  ((h.put1 hB 0 (by omega) _ (noInt_bool _)).put1 hB 1 (by omega) _ (noInt_slice _ _ _)).nat1 ((h.put1 hB 0 (by omega) _ (noInt_bool _)).nat1 (h.nat1 hx _ _) _ _) _ _
theorem Resa.start (w : World) : Resa w.heap.size w (w.alloc (.cells #[.bool false, .slice none 0 0, .slice none 0 0] 100)) :=
  ⟨by simp, (Below.refl _ _).alloc (Nat.le_refl _) _, .bool false, .slice none 0 0, .slice none 0 0, heap_new _ _, noInt_bool _, noInt_slice _ _ _, noInt_slice _ _ _⟩
end
def QAt (w : World) (x : Value) (q : Rat) : Prop := ∃ u v, x = .agg #[.bool (decide (q.num < 0)), u, v] ∧ Nat9 w u q.num.natAbs ∧ (Nat9 w v q.den ∨ (Nat9 w v 0 ∧ q.den = 1))
theorem QAt.below {w w' : World} {x : Value} {q : Rat} (h : QAt w x q) (hb : Below w.heap.size w w') : QAt w' x q := by
  obtain ⟨u, v, h1, h2, h3⟩ := h
  exact ⟨u, v, h1, h2.below hb, h3.imp (·.below hb) fun h => ⟨h.1.below hb, h.2⟩⟩
def QPost (q : Rat) (w : World) (e : Ending) (w' : World) : Prop := ∃ x, e = .returned x ∧ QAt w' x q ∧ Below w.heap.size w w'
theorem QAt.slices {w : World} {x : Value} {q : Rat} (h : QAt w x q) : ∃ p n c p2 n2 c2, x = .agg #[.bool (decide (q.num < 0)), .slice p n c, .slice p2 n2 c2] ∧ Nat9 w (.slice p n c) q.num.natAbs ∧ (Nat9 w (.slice p2 n2 c2) q.den ∨ (Nat9 w (.slice p2 n2 c2) 0 ∧ q.den = 1)) := by
  obtain ⟨u, v, h1, h2, h3⟩ := h
  obtain ⟨p, n, c, rfl⟩ := h2.slice
  obtain ⟨p2, n2, c2, rfl⟩ : ∃ p n c, v = .slice p n c := h3.elim (·.slice) fun h => h.1.slice
  exact ⟨p, n, c, p2, n2, c2, h1, h2, h3⟩
def QLt (K : Nat) (q : Rat) : Prop := q.num.natAbs < B9 ^ K ∧ q.den < B9 ^ K
theorem ratv_zero (s : Bool) (b : Nat) : ratv s 0 b = 0 := by unfold ratv; cases s <;> simp <;> grind
theorem ratv_den0 (s : Bool) (a : Nat) : ratv s a 0 = 0 := by unfold ratv; cases s <;> simp <;> grind
theorem ratv_lt {K a b : Nat} (s : Bool) (ha : a < B9 ^ K) (hb : b < B9 ^ K) (hb0 : 0 < b) (hs : s = true → 0 < a) : QLt K (ratv s a b) := by
  obtain ⟨-, h2, h3⟩ := ratv_num hb0 hs
  exact ⟨by rw [h2]; exact Nat.lt_of_le_of_lt (Nat.div_le_self _ _) ha, by rw [h3]; exact Nat.lt_of_le_of_lt (Nat.div_le_self _ _) hb⟩
theorem below_alloc9 (W : World) (o : Obj) : Below W.heap.size W (W.alloc o) := (Below.refl _ _).alloc (Nat.le_refl _) o
theorem one_any (w : World) : Calls Tryz.prog 118 #[] w (Post9 1 w) := by
  have hno := hiD (natOf_any 1 w (by omega))
  go_enter Tryz.func118, Tryz.ntmps118
  go_wp2_with fail
  refine hno.out.mono ?_
  rintro e w' ⟨v, rfl, hv⟩
  obtain ⟨p, n, c, rfl⟩ := hv.1.slice
  go_wp2_with fail
  go_ret
  exact ⟨_, rfl, hv⟩
def Some9 (x : Nat) (w : World) (e : Ending) (w' : World) : Prop := ∃ p n c, e = .returned (.slice p n c) ∧ Nat9 w' (.slice p n c) x ∧ Below w.heap.size w w'
theorem den_any (x : Value) (q : Rat) (w : World) (hx : QAt w x q) : Calls Tryz.prog 116 #[x] w (Some9 q.den w) := by
  obtain ⟨p, n, c, p2, n2, c2, rfl, hu, hv⟩ := hx.slices
  have hq0 := q.den_pos
  rcases hv with hv | ⟨hv, h1⟩
  · have hn2 : ((n2 : Int) == 0) = false := by
      have := hv.zero_iff (n := n2)
      simp; omega
    have Hv := hiD hv
    clear hu hv hq0
    go_enter Tryz.func116, Tryz.ntmps116
    go_wp2_with fail
    go_ret
    exact ⟨_, _, _, rfl, Hv.out.below (below_alloc9 _ _), below_alloc9 _ _⟩
  · have hn2 : n2 = 0 := hv.zero_iff.2 rfl
    subst hn2
    have Hq := hiD h1
    have hone : ∀ W, Hid (Calls Tryz.prog 118 #[] W (Post9 1 W)) := fun W => hiD (one_any W)
    clear hu hv hq0 h1
    go_enter Tryz.func116, Tryz.ntmps116
    go_wp2_with fail
    refine (hone _).out.mono ?_
    rintro e w' ⟨v, rfl, hv, hb, -⟩
    obtain ⟨p3, n3, c3, rfl⟩ := hv.slice
    have Hb := hiD ((below_alloc9 w _).trans (hb.mono (below_alloc9 w _).size))
    clear hb
    go_wp2_with fail
    go_ret
    exact ⟨_, _, _, rfl, by rw [Hq.out]; exact hv, Hb.out⟩
theorem QAt.zero (w : World) : QAt w (.agg #[.bool false, .slice none 0 0, .slice none 0 0]) 0 := ⟨_, _, rfl, Nat9.zero w, .inr ⟨Nat9.zero w, rfl⟩⟩
theorem make_zero (s : Bool) (p q : Option Addr) (n c m d : Nat) (w : World) (h : n = 0 ∨ m = 0) : Calls Tryz.prog 114 #[.bool s, .slice p n c, .slice q m d] w (QPost 0 w) := by
  have hres := hiD (Resa.start w)
  by_cases hn : n = 0
  · subst hn
    go_enter Tryz.func114, Tryz.ntmps114
    go_wp2_with fail
    refine bodyPost_ret (v := .agg #[.bool false, .slice none 0 0, .slice none 0 0]) (by simp [results, Tryz.results114, go_sem]) rfl ?_
    exact ⟨_, rfl, QAt.zero _, hres.out.below⟩
  · obtain rfl : m = 0 := by omega
    have hn0 : ((n : Int) == 0) = false := by simp; omega
    go_enter Tryz.func114, Tryz.ntmps114
    go_wp2_with fail
    refine bodyPost_ret (v := .agg #[.bool false, .slice none 0 0, .slice none 0 0]) (by simp [results, Tryz.results114, go_sem]) rfl ?_
    exact ⟨_, rfl, QAt.zero _, hres.out.below⟩
theorem make_pos (s : Bool) (u v : Value) (a b K : Nat) (w : World) (hK : K ≤ 900000) (ha0 : 0 < a) (hb0 : 0 < b) (ha : a < B9 ^ K) (hb : b < B9 ^ K) (hu : Nat9 w u a) (hv : Nat9 w v b) : Calls Tryz.prog 114 #[.bool s, u, v] w (QPost (ratv s a b) w) := by
  obtain ⟨p, n, c, rfl⟩ := hu.slice
  obtain ⟨q, m, d, rfl⟩ := hv.slice
  have hn0 : ((n : Int) == 0) = false := by have := hu.zero_iff (n := n); simp; omega
  have hm0 : ((m : Int) == 0) = false := by have := hv.zero_iff (n := m); simp; omega
  have hres := hiD (Resa.start w)
  obtain ⟨g, hg⟩ : ∃ g, Hid (g = Nat.gcd a b) := ⟨_, hiD rfl⟩
  have hg0 : Hid (0 < g ∧ g < B9 ^ K) := hiD (by rw [hg.out]; exact ⟨Nat.gcd_pos_of_pos_left _ ha0, Nat.lt_of_le_of_lt (Nat.gcd_le_left _ ha0) ha⟩)
  have hgcd : ∀ W, Below w.heap.size w W → Hid (Calls Tryz.prog 149 #[.slice p n c, .slice q m d] W fun e w' => ∃ gv, e = .returned gv ∧ Nat9 w' gv g ∧ Below W.heap.size W w') := fun W hW => hiD (by
    rw [hg.out]; exact natGcd_nat _ _ a b K W hK ha hb (hu.below hW) (hv.below hW))
  have hd1 : ∀ W gv, Below w.heap.size w W → Nat9 W gv g → Hid (Calls Tryz.prog 150 #[.slice p n c, gv] W (DivPost9 a g W)) := fun W gv hW h => hiD (natDiv_nat _ _ a g K W hK ha hg0.out.2 hg0.out.1 (hu.below hW) h)
  have hd2 : ∀ W gv, Below w.heap.size w W → Nat9 W gv g → Hid (Calls Tryz.prog 150 #[.slice q m d, gv] W (DivPost9 b g W)) := fun W gv hW h => hiD (natDiv_nat _ _ b g K W hK hb hg0.out.2 hg0.out.1 (hv.below hW) h)
  have hq : Hid (decide ((ratv s a b).num < 0) = s ∧ (ratv s a b).num.natAbs = a / g ∧ (ratv s a b).den = b / g) := hiD (by rw [hg.out]; exact ratv_num hb0 (fun _ => ha0))
  clear hu hv ha hb ha0 hb0
  go_enter Tryz.func114, Tryz.ntmps114
  go_wp2_with fail
  refine (hgcd _ hres.out.below).out.mono ?_
  rintro e w1 ⟨gv, rfl, hgv, hb1⟩
  obtain ⟨pg, ng, cg, rfl⟩ := hgv.slice
  have hr1 := hiD (hres.out.next hb1)
  have h1 := hd1 w1 _ hr1.out.below hgv
  have Hgv := hiD hgv
  clear hgv hb1 hgcd hd1
  go_wp2_with fail
  refine h1.out.mono ?_
  rintro e w2 ⟨v2, r2, rfl, hv2, hr, hb2⟩
  obtain ⟨p2, n2, c2, rfl⟩ := hv2.slice
  obtain ⟨p3, n3, c3, rfl⟩ := hr.slice
  have hr2 := hiD (hr1.out.next hb2)
  have h2 := hd2 w2 _ hr2.out.below (Hgv.out.below hb2)
  have Hv2 := hiD hv2
  clear hv2 hr hb2 h1 hd2
  go_wp2_with fail
  refine h2.out.mono ?_
  rintro e w3 ⟨v4, r4, rfl, hv4, hr, hb3⟩
  obtain ⟨p4, n4, c4, rfl⟩ := hv4.slice
  obtain ⟨p5, n5, c5, rfl⟩ := hr.slice
  have hr3 := hiD (hr2.out.next hb3)
  obtain ⟨z0, z1, z2, l0, l1, l2, f0, f1, f2⟩ := hr3.out.slots
  have q1 := hiD (hr3.out.nat3 (Nat.le_refl _) (Hv2.out.below hb3) s p2 p4 n2 c2 n4 c4)
  have q2 := hiD (hr3.out.nat3 (Nat.le_refl _) hv4 s p2 p4 n2 c2 n4 c4)
  have q3 := hiD (hr3.out.put3 (Nat.le_refl _) s p2 p4 n2 c2 n4 c4).below
  clear hv4 hr hb3 h2
  go_wp2_with fail
  refine bodyPost_ret (v := .agg #[.bool s, .slice p2 n2 c2, .slice p4 n4 c4]) (by simp [results, Tryz.results114, go_sem, l0, l1, l2]) rfl ?_
  exact ⟨_, rfl, ⟨_, _, by rw [hq.out.1], by rw [hq.out.2.1]; exact q1.out, .inl (by rw [hq.out.2.2]; exact q2.out)⟩, q3.out⟩
theorem make_any (s : Bool) (u v : Value) (a b K : Nat) (w : World) (hK : K ≤ 900000) (ha : a < B9 ^ K) (hb : b < B9 ^ K) (hu : Nat9 w u a) (hv : Nat9 w v b) : Calls Tryz.prog 114 #[.bool s, u, v] w (QPost (ratv s a b) w) := by
  by_cases ha0 : a = 0
  · obtain ⟨p, n, c, rfl⟩ := hu.slice
    obtain ⟨q, m, d, rfl⟩ := hv.slice
    rw [ha0, ratv_zero]
    exact make_zero s p q n c m d w (.inl (hu.zero_iff.2 ha0))
  · by_cases hb0 : b = 0
    · obtain ⟨p, n, c, rfl⟩ := hu.slice
      obtain ⟨q, m, d, rfl⟩ := hv.slice
      rw [hb0, ratv_den0]
      exact make_zero s p q n c m d w (.inr (hv.zero_iff.2 hb0))
    · exact make_pos s u v a b K w hK (by omega) (by omega) ha hb hu hv
theorem QLt.mono {K L : Nat} {q : Rat} (h : QLt K q) (hK : K ≤ L) : QLt L q := ⟨pow9_mono h.1 hK, pow9_mono h.2 hK⟩
def QPostB (q : Rat) (sb : Bool) (w : World) (e : Ending) (w' : World) : Prop := ∃ p n c p2 n2 c2, e = .returned (.agg #[.bool sb, .slice p n c, .slice p2 n2 c2]) ∧ Nat9 w' (.slice p n c) q.num.natAbs ∧ (Nat9 w' (.slice p2 n2 c2) q.den ∨ (Nat9 w' (.slice p2 n2 c2) 0 ∧ q.den = 1)) ∧ Below w.heap.size w w'
theorem QPost.b {q : Rat} {sb : Bool} {w w' : World} {e : Ending} (h : QPost q w e w') (hs : sb = decide (q.num < 0)) : QPostB q sb w e w' := by
  obtain ⟨x, rfl, hx, hb⟩ := h
  obtain ⟨p, n, c, p2, n2, c2, rfl, h1, h2⟩ := hx.slices
  exact ⟨p, n, c, p2, n2, c2, by rw [hs], h1, h2, hb⟩
end Go.Proofs.YtlcpcpmlfegejaaGreatDoor
