/- The document's natural numbers in memory: slices of digits to the base 10^9. -/
import Derived.Test.YtoegbjmoecbjdaaGreatDoorPart04
import Derived.Maps.AppendAt
import Derived.Test.YtoegbjmoecbjdaaGreatDoorRA
namespace Go.Proofs.YtoegbjmoecbjdaaGreatDoor
open Go.RowKit Big
def Nat9 (w : World) (v : Value) (x : Nat) : Prop := ∃ p n c l, v = .slice p n c ∧ (n ≤ c ∧ (p = none → c = 0)) ∧ Rd w p n l ∧ Canon B9 l ∧ val B9 l = x
theorem Nat9.below {w w' : World} {v : Value} {x : Nat} (h : Nat9 w v x) (hb : Below w.heap.size w w') : Nat9 w' v x := by
  obtain ⟨p, n, c, l, h1, h2, h3, h4⟩ := h
  exact ⟨p, n, c, l, h1, h2, h3.below hb, h4⟩
theorem Nat9.zero (w : World) : Nat9 w (.slice none 0 0) 0 := ⟨none, 0, 0, [], rfl, ⟨Nat.le_refl _, fun _ => rfl⟩, Rd.nil _ _, Canon.nil _, rfl⟩
theorem Nat9.slice {w : World} {v : Value} {x : Nat} (h : Nat9 w v x) : ∃ p n c, v = .slice p n c := by
  obtain ⟨p, n, c, _, h1, _⟩ := h
  exact ⟨p, n, c, h1⟩
theorem limbs9 {l : List Nat} {x K : Nat} (h : Canon B9 l) (hx : val B9 l = x) (hK : x < B9 ^ K) : l.length ≤ K := by
  apply Nat.le_of_not_lt; intro h1
  obtain ⟨k, hk⟩ : ∃ k, l.length = k + 1 := ⟨l.length - 1, by omega⟩
  have h2 := h.pow_le k hk
  have h3 : B9 ^ K ≤ B9 ^ k := Nat.pow_le_pow_right B9_pos (by omega)
  omega
theorem pow9 {x K : Nat} {l : List Nat} {n : Nat} {p : Option Addr} {w : World} (hc : Canon B9 l) (hv : val B9 l = x) (hx : x < B9 ^ K) (hl : Rd w p n l) : n ≤ K := by
  have := limbs9 hc hv hx; rw [hl.len] at this; exact this
theorem Nat9.zero_iff {w : World} {p : Option Addr} {n c x : Nat} (h : Nat9 w (.slice p n c) x) : n = 0 ↔ x = 0 := by
  obtain ⟨p', n', c', l, h1, h2, h3, h4, h5⟩ := h
  cases h1
  have := Canon.zero_iff B9_pos h4
  rw [h5] at this
  rw [this, ← h3.len, List.length_eq_zero_iff]
def Fresh (B : Nat) (v : Value) : Prop := ∀ b o n c, v = .slice (some ⟨b, o, none⟩) n c → B ≤ b
def Post9 (x : Nat) (w : World) (e : Ending) (w' : World) : Prop := ∃ v, e = .returned v ∧ Nat9 w' v x ∧ Below w.heap.size w w' ∧ Fresh w.heap.size v
theorem drop_zeros9 (L : List Nat) (k : Nat) (h : ∀ j, k ≤ j → j < L.length → L.getD j 0 = 0) : val B9 (L.drop k) = 0 := by
  have : L.drop k = List.replicate (L.length - k) 0 := by
    apply List.ext_getElem
    · simp
    · intro i h1 h2
      have := h (k + i) (by omega) (by simp at h1; omega)
      rw [List.getD_eq_getElem?_getD, List.getElem?_eq_getElem (by simp at h1; omega)] at this
      simpa using this
  rw [this, val_zeros]
theorem trim_post9 {p : Option Addr} {n c : Nat} {l : List Nat} {w0 w w' : World} {e : Ending} (hnc : n ≤ c ∧ (p = none → c = 0)) (hf : ∀ b o, p = some ⟨b, o, none⟩ → w0.heap.size ≤ b) (hl : Rd w p n l) (hd : Dig B9 l) (hb : Below w0.heap.size w0 w) (h : Trim p n c l w e w') : Post9 (val B9 l) w0 e w' := by
  obtain ⟨k, hk, rfl, rfl, hz, h0⟩ := h
  refine ⟨_, rfl, ⟨p, k, c, l.take k, rfl, ⟨by omega, hnc.2⟩, hl.take k hk, ⟨hd.take k, ?_⟩, ?_⟩, hb, fun b o n' c' h => by cases h; exact hf b o rfl⟩
  · rcases h0 with rfl | h0
    · simp
    · obtain ⟨j, rfl⟩ : ∃ j, k = j + 1 := ⟨k - 1, by
        have : k ≠ 0 := by
          rintro rfl
          by_cases h1 : 0 < n
          · exact h0 (hz 0 (by omega) h1)
          · apply h0; rw [List.getD_eq_getElem?_getD, List.getElem?_eq_none (by rw [hl.len]; omega)]; rfl
        omega⟩
      rw [List.getLast?_eq_getElem?, List.length_take, Nat.min_eq_left (by rw [hl.len]; exact hk), Nat.add_sub_cancel, List.getElem?_take_of_lt (by omega)]
      rw [Nat.add_sub_cancel, List.getD_eq_getElem?_getD] at h0
      intro e1; rw [e1] at h0; exact h0 rfl
  · rw [val_split B9 l k (by rw [hl.len]; exact hk), drop_zeros9 l k (fun j h1 h2 => hz j h1 (by rw [hl.len] at h2; exact h2))]
    omega
theorem own_rd {w : World} {base n : Nat} {v : Value} {L : List Nat} (h : w.ownsRow base 76 1 v n (u64s L)) : ∃ p c, v = .slice p n c ∧ (n ≤ c ∧ (p = none → c = 0)) ∧ Rd w p n L ∧ ∀ b o, p = some ⟨b, o, none⟩ → base ≤ b := by
  obtain ⟨h1, h2⟩ := h
  rw [u64s_length, Nat.mul_one] at h1
  rcases h2 with ⟨rfl, rfl⟩ | ⟨g, cap, cur, rfl, hg, hh, hn, hm, hs, hc⟩
  · exact ⟨none, 0, rfl, ⟨Nat.le_refl _, fun _ => rfl⟩, by rw [List.eq_nil_of_length_eq_zero h1]; exact Rd.nil _ _, fun b o h => by cases h⟩
  · refine ⟨_, cap, rfl, ⟨hn, fun h => by cases h⟩, ⟨h1, ?_⟩, fun b o h => by cases h; exact hg⟩
    by_cases h0 : n = 0
    · exact .inl h0
    · refine .inr ⟨g, 0, rfl, (Array.getElem?_eq_some_iff.1 hh).1, fun j hj => ?_⟩
      rw [Nat.mul_one] at hc
      have hjl : j < L.length := by omega
      have e : cur[j]? = (u64s L)[j]? := by
        rw [← hc, List.getElem?_take_of_lt hj, Array.getElem?_toList]
      rw [Nat.zero_add]
      simp only [World.cell?, hh]
      simp [e, u64s, List.getD_eq_getElem?_getD, hjl]
structure Acc (w wr : World) (v : Value) (L : List Nat) : Prop where
  own : wr.ownsRow w.heap.size 76 1 v L.length (u64s L)
  below : Below w.heap.size w wr
theorem Acc.nil (w wr : World) (h : Below w.heap.size w wr) : Acc w wr (.slice none 0 0) [] := ⟨World.ownsRow_nil _ _ _ _, h⟩
theorem Acc.next {w wr w5 : World} {v v5 : Value} {L : List Nat} {m x : Nat} {o : Obj} (h : Acc w wr v L) (hm : m = L.length + 1) (hown : w5.ownsRow w.heap.size 76 1 v5 m (u64s L ++ [.int .u64 (x : Int)])) (hg : (wr.alloc o).grownBy w5 v.ownBlock) : Acc w w5 v5 (L ++ [x]) := by
  subst hm
  refine ⟨?_, ?_⟩
  · have e : u64s (L ++ [x]) = u64s L ++ [.int .u64 (x : Int)] := by simp [u64s]
    rw [e, List.length_append]; exact hown
  · exact (h.below.alloc h.below.size o).grown hg (by simp; have := h.below.size; omega) (fun k hk => (h.own.lt k hk).1)
theorem Acc.drewN {w wr : World} {v : Value} {L : List Nat} (h : Acc w wr v L) (k : Nat) : Acc w (wr.drewN k) v L := ⟨h.own, h.below.trans (below_drewN _ _ _)⟩
theorem Acc.nat {w wr : World} {v : Value} {L : List Nat} (h : Acc w wr v L) (hc : Canon B9 L) : Post9 (val B9 L) w (.returned v) wr := by
  obtain ⟨p, c, rfl, hn, hr, hf⟩ := own_rd h.own
  exact ⟨_, rfl, ⟨p, _, c, L, rfl, hn, hr, hc, rfl⟩, h.below, fun b o n c' h => by cases h; exact hf b o rfl⟩
end Go.Proofs.YtoegbjmoecbjdaaGreatDoor
set_option maxRecDepth 100000
set_option maxHeartbeats 800000
namespace Go.Proofs.YtoegbjmoecbjdaaGreatDoor
open Go.RowKit Big
theorem underlying36 : Tryz.prog.underlying 36 = some (.slice 76) := by kernel_rfl
theorem trim_any (p : Option Addr) (n c : Nat) (l : List Nat) (w : World) (hn : n ≤ maxLen) (hnc : n ≤ c) (hl : Rd w p n l) :
    Calls Tryz.prog 138 #[.slice p n c] w (Trim p n c l w) := by
  unfold maxLen at hn
  go_enter Tryz.func138, Tryz.ntmps138
  go_wp2
  go_loop [3] (fun i => ∃ k : Nat, k ≤ n ∧ i = .int .i64 k ∧ ∀ j, k ≤ j → j < n → l.getD j 0 = 0) (fun i => (intOf i).toNat)
  case atStart => exact ⟨n, Nat.le_refl _, rfl, fun j h1 h2 => by omega⟩
  case round =>
    obtain ⟨k, hk, rfl, hz⟩ := hrel
    have Hz := hiD hz
    clear hz
    by_cases h0 : k = 0
    · subst h0
      go_wp2
      go_ret
      exact ⟨0, by omega, rfl, rfl, Hz.out, .inl rfl⟩
    · obtain ⟨b, off, d, rfl, hb, hc, hd⟩ := hl.at (k := k - 1) (by omega)
      by_cases hz : d = 0
      · subst hz
        go_wp2
        go_round
        case rel => exact ⟨k - 1, by omega, by go_num, fun j h1 h2 => by
          by_cases e : j = k - 1
          · rw [e]; exact hd.out
          · exact Hz.out j (by omega) h2⟩
        case measure => simp [intOf]; omega
      · have hz' : ((d : Int) == 0) = false := by simpa using hz
        go_wp2
        go_ret
        exact ⟨k, hk, rfl, rfl, Hz.out, .inr (by rw [hd.out]; exact hz)⟩
theorem Canon.of_ge {B : Nat} {L : List Nat} {k : Nat} (hd : Dig B L) (hk : L.length = k + 1) (h : B ^ k ≤ val B L) : Canon B L := by
  refine Canon.of_last hd k hk ?_
  intro h0
  have h1 := val_take_succD B L k
  rw [List.take_of_length_le (by omega), h0, Nat.mul_zero, Nat.add_zero] at h1
  have h2 := val_lt (L.take k) (hd.take k)
  rw [List.length_take, Nat.min_eq_left (by omega)] at h2
  omega
theorem natOf_step {N k : Nat} {L : List Nat} (h : k ≤ N ∧ L.length ≤ 3 ∧ Dig B9 L ∧ val B9 L + B9 ^ L.length * k = N ∧ (k = 0 → Canon B9 L)) (hN : N < 18446744073709551616) (h0 : ¬ k = 0) :
    k / 1000000000 ≤ N ∧ (L ++ [k % 1000000000]).length ≤ 3 ∧ Dig B9 (L ++ [k % 1000000000]) ∧ val B9 (L ++ [k % 1000000000]) + B9 ^ (L ++ [k % 1000000000]).length * (k / 1000000000) = N ∧ (k / 1000000000 = 0 → Canon B9 (L ++ [k % 1000000000])) := by
  obtain ⟨h1, h2, h3, h4, h5⟩ := h
  have hd : Dig B9 (L ++ [k % 1000000000]) := h3.append (Dig.one (by rw [B9_eq]; omega))
  have hl : L.length ≤ 2 := by
    apply Nat.le_of_not_lt; intro h6
    have : L.length = 3 := by omega
    rw [this] at h4
    have h7 : B9 ^ 3 * 1 ≤ B9 ^ 3 * k := Nat.mul_le_mul_left _ (by omega)
    have h8 : B9 ^ 3 = 1000000000000000000000000000 := by rw [B9_eq]
    omega
  refine ⟨by omega, by simp; omega, hd, ?_, ?_⟩
  · rw [val_snoc, List.length_append, List.length_singleton, Nat.pow_succ, ← h4]
    have : k = k % 1000000000 + B9 * (k / 1000000000) := by rw [B9_eq]; omega
    have h9 : B9 ^ L.length * k = B9 ^ L.length * (k % 1000000000 + B9 * (k / 1000000000)) := by rw [← this]
    rw [h9]; grind
  · intro h6
    refine Canon.of_last hd L.length (by simp) ?_
    rw [List.getD_eq_getElem?_getD, List.getElem?_append_right (Nat.le_refl _), Nat.sub_self]
    simp; omega
theorem natOf_any (N : Nat) (w : World) (hN : N < 18446744073709551616) :
    Calls Tryz.prog 70 #[.int .u64 N] w (Post9 N w) := by
  obtain ⟨i0, hi, hz0, hz1, hz2⟩ := info_parts info79
  have HN := hiD hN
  clear hN
  go_enter Tryz.func70, Tryz.ntmps70
  go_wp2_with fail
  go_loopw [0, 3] (fun nv ov wr => ∃ (k : Nat) (L : List Nat), nv = .int .u64 k ∧ Hid (k ≤ N ∧ L.length ≤ 3 ∧ Dig B9 L ∧ val B9 L + B9 ^ L.length * k = N ∧ (k = 0 → Canon B9 L)) ∧ Hid (Acc w wr ov L)) (fun nv _ _ => (intOf nv).toNat)
  case atStart => exact ⟨N, [], rfl, hiD ⟨Nat.le_refl _, by simp, Dig.nil _, by simp [val], fun _ => Canon.nil _⟩, hiD (Acc.nil _ _ (Below.refl _ _))⟩
  case round =>
    obtain ⟨k, L, rfl, hinv, hacc⟩ := hrel
    obtain ⟨po, no, co, rfl⟩ : ∃ p n c, u3 = .slice p n c := by
      obtain ⟨p, c, h, _⟩ := own_rd hacc.out.own; exact ⟨_, _, _, h⟩
    by_cases h0 : k = 0
    · subst h0
      have hfin : Hid (Post9 N w (.returned (.slice po no co)) wr) := hiD (by
        have h := hacc.out.nat (hinv.out.2.2.2.2 rfl)
        have h2 := hinv.out.2.2.2.1
        rw [Nat.mul_zero, Nat.add_zero] at h2
        rw [← h2]; exact h)
      go_wp2_with fail
      go_ret
      exact hfin.out
    · have hlen : Hid (L.length + 1 ≤ maxLen ∧ (L.length + 1) * 8 ≤ 140737488355328 ∧ w.heap.size ≤ wr.heap.size + 1) := hiD (by
        have := hinv.out.2.1
        have h := hacc.out.below.size
        unfold maxLen; omega)
      have hstep := hiD (natOf_step hinv.out HN.out h0)
      have hk : (0 : Int) < k := by omega
      have hkb : (k : Int) ≤ 18446744073709551615 := by have h1 := hinv.out.1; have h2 := HN.out; omega
      go_wp2_with (at_builtin; refine wpList_append_own _ rfl (.tmp 6) (.tmp 9) 36 rfl w.heap.size 76 i0 (.int .u64 0) 1 8 underlying36 hi hz0 hz1 hz2 rfl (by decide) _ _ _ rfl ((hacc.out.own).alloc _) ⟨_, 0, none⟩ 1 1 [.int .u64 ((k : Int) % 1000000000)] rfl rfl (cell_one_new _ _ _) (by intro u hu; simp at hu; subst hu; rfl) hlen.out.1 hlen.out.2.1 (by simp; exact hlen.out.2.2) ?_)
      intro v5 w5 hown5 hgrow5 _
      have hnext := hiD (hacc.out.next (x := k % 1000000000) rfl hown5 hgrow5)
      clear hown5 hgrow5
      go_wp2_with fail
      go_roundw
      case rel => exact ⟨k / 1000000000, _, rfl, hstep, hnext⟩
      case measure => simp [intOf]; omega
end Go.Proofs.YtoegbjmoecbjdaaGreatDoor
