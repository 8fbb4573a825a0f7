/- The document's NatDiv. -/
import Derived.Test.YtoegbjmoecbjdaaGreatDoorRF
set_option maxHeartbeats 1600000
set_option maxRecDepth 100000
namespace Go.Proofs.YtoegbjmoecbjdaaGreatDoor
open Go.RowKit Big
def Apart (g : Nat) (v : Value) : Prop := ∀ b o n c, v = .slice (some ⟨b, o, none⟩) n c → b ≠ g
theorem Nat9.set {w : World} {v : Value} {x g : Nat} (h : Nat9 w v x) (ha : Apart g v) (k : Nat) (u : Value) : Nat9 (w.setCell ⟨g, k, none⟩ u) v x := by
  obtain ⟨p, n, c, l, rfl, h2, h3, h4⟩ := h
  exact ⟨p, n, c, l, rfl, h2, ((Only.refl g w).setCell k u).rd h3 (.inr fun b o hp => ha b o n c (by rw [hp])), h4⟩
theorem Nat9.apart {w : World} {v : Value} {x g : Nat} (h : Nat9 w v x) (hg : w.heap.size ≤ g) (hx : x ≠ 0) : Apart g v := by
  obtain ⟨p, n, c, l, rfl, h2, h3, h4, h5⟩ := h
  intro b o n' c' e
  cases e
  have hn : 0 < n := by
    apply Nat.pos_of_ne_zero; rintro rfl
    have := h3.len
    rw [List.eq_nil_of_length_eq_zero this] at h5
    exact hx h5.symm
  obtain ⟨b', o', e', hb, _⟩ := h3.opened hn
  cases e'
  omega
theorem Fresh.apart {g B : Nat} {v : Value} (h : Fresh B v) (hg : g < B) : Apart g v := fun b o n c e => by have := h b o n c e; omega
theorem Nat9.pos {w : World} {v : Value} {x : Nat} (h : Nat9 w v x) (hx : x ≠ 0) : ∃ b o k c l, v = .slice (some ⟨b, o, none⟩) (k + 1) c ∧ k + 1 ≤ c ∧ Rd w (some ⟨b, o, none⟩) (k + 1) l ∧ Canon B9 l ∧ val B9 l = x ∧ b < w.heap.size := by
  obtain ⟨p, n, c, l, rfl, h2, h3, h4, h5⟩ := h
  have hn : 0 < n := by
    apply Nat.pos_of_ne_zero; rintro rfl
    have := h3.len
    rw [List.eq_nil_of_length_eq_zero this] at h5
    exact hx h5.symm
  obtain ⟨k, rfl⟩ : ∃ k, n = k + 1 := ⟨n - 1, by omega⟩
  obtain ⟨b', o', e', hb, _⟩ := h3.opened hn
  cases e'
  exact ⟨b', o', k, c, l, rfl, h2.1, h3, h4, h5, hb⟩
theorem heap_new9 (W : World) (o : Obj) : (W.alloc o).heap[W.heap.size]? = some o := by show (W.heap.push _)[_]? = _; simp
def DivPost9 (a b : Nat) (w : World) (e : Ending) (w' : World) : Prop :=
  ∃ v r, e = .returned (.tuple #[v, r]) ∧ Nat9 w' v (a / b) ∧ Nat9 w' r (a % b) ∧ Below w.heap.size w w'
theorem Rd.news {w w' : World} {p : Option Addr} {n : Nat} {l : List Nat} (h : Rd w p n l) (hb : Below w.heap.size w w') : ∀ ad, p = some ad → ∀ j v, (u64s l)[j]? = some v → w'.cell? (ad.add j) = some v := by
  intro ad hp j v hv
  have hlt : j < (u64s l).length := (List.getElem?_eq_some_iff.1 hv).1
  obtain ⟨ad', e, hc⟩ := (h.below hb).cells (by omega)
  rw [hp] at e; cases e
  exact hc j v hv
theorem natDiv_lt (p : Option Addr) (n c0 : Nat) (x : List Nat) (v : Value) (a b K : Nat) (w : World) (hK : K ≤ 1000000) (ha : a < B9 ^ K) (hb : b < B9 ^ K) (hlt : a < b) (hnc : n ≤ c0 ∧ (p = none → c0 = 0)) (hx : Rd w p n x) (cx : Canon B9 x) (hxa : val B9 x = a) (hv : Nat9 w v b) :
    Calls Tryz.prog 136 #[.slice p n c0, v] w (DivPost9 a b w) := by
  obtain ⟨i0, hi, hz0, hz1, hz2⟩ := info_parts info79
  have hcmp : Hid (∀ W, Below w.heap.size w W → Calls Tryz.prog 69 #[.slice p n c0, v] W fun e w' => e = .returned (.int .i64 (-1)) ∧ Below w.heap.size w w') := hiD fun W hW => by
    have hx2 : Nat9 W (.slice p n c0) a := Nat9.below ⟨p, n, c0, x, rfl, hnc, hx, cx, hxa⟩ hW
    have h := natCmp_nat (.slice p n c0) v a b K W (by unfold most; omega) ha hb hx2 (hv.below hW)
    refine h.mono fun e w' h => ?_
    obtain ⟨h1, t, h2⟩ := h
    refine ⟨by rw [h1]; unfold cmp3; rw [if_pos hlt], ?_⟩
    rw [← h2]; exact hW.trans (below_drewN _ _ _)
  have hnp := pow9 cx hxa ha hx
  have hn1 : Hid (n ≤ 1000000) := hiD (by omega)
  obtain ⟨b1, o1, k, c1, l, rfl, hk1, -, -, -, -⟩ := hv.pos (by omega)
  have hk0 : ((((k + 1 : Nat) : Int)) == 0) = false := by simp; omega
  have hfin : Hid (∀ W v, W.ownsRow w.heap.size 76 1 v n (u64s x) → Below w.heap.size w W → DivPost9 a b w (.returned (.tuple #[.slice none 0 0, v])) W) := hiD fun W v hown hW => by
    have hl := hx.len
    rw [← hl] at hown
    obtain ⟨v', h1, h2, h3, h4⟩ := (Acc.mk hown hW).nat cx
    cases h1
    refine ⟨_, v, rfl, ?_, ?_, hW⟩
    · rw [Nat.div_eq_of_lt hlt]; exact Nat9.zero _
    · rw [Nat.mod_eq_of_lt hlt, ← hxa]; exact h2
  have hxl := hiD hx.len
  have Hx := hiD hx
  have Hpc := hiD hnc.2
  clear ha hb hlt hv cx hxa hnp hnc
  go_enter Tryz.func136, Tryz.ntmps136
  go_wp2_with fail
  refine (hcmp.out _ (Below.refl _ _)).mono ?_
  rintro e w1 ⟨rfl, hb1⟩
  have Hb1 := hiD hb1
  clear hb1
  have hown0 : Hid ((w1.alloc (.cells #[] 76)).ownsRow w.heap.size 76 1 (.slice (some ⟨w1.heap.size, 0, none⟩) 0 0) 0 (u64s [])) := hiD ⟨rfl, .inr ⟨w1.heap.size, 0, #[], rfl, Hb1.out.size, heap_new9 _ _, Nat.le_refl _, Nat.zero_le _, rfl, rfl⟩⟩
  cases p with
  | none =>
    obtain rfl : c0 = 0 := Hpc.out rfl
    obtain rfl : n = 0 := by
      rcases Hx.out.cell with h | ⟨_, _, h, _⟩
      · exact h
      · cases h
    have hx0 : x = [] := List.eq_nil_of_length_eq_zero hxl.out
    have hend := hiD (hfin.out _ _ (by rw [hx0]; exact hown0.out) (Hb1.out.alloc Hb1.out.size _))
    go_wp2_with fail
    go_ret2
    exact hend.out
  | some ad =>
    have hlen : Hid (0 + n ≤ maxLen ∧ (0 + n) * 8 ≤ 140737488355328 ∧ w.heap.size ≤ (w1.alloc (.cells #[] 76)).heap.size) := hiD (by
      have := hn1.out
      have h := Hb1.out.size
      refine ⟨by unfold maxLen; omega, by omega, ?_⟩
      simp; omega)
    have hnews := hiD (Hx.out.news (Hb1.out.alloc Hb1.out.size (.cells #[] 76)) ad rfl)
    have hul : Hid ((u64s x).length = n * 1) := hiD (by rw [u64s_length, hxl.out, Nat.mul_one])
    go_wp2_with (at_builtin; refine wpList_append_own _ rfl (.tmp 26) (.tmp 27) 36 rfl w.heap.size 76 i0 (.int .u64 0) 1 8 underlying36 hi hz0 hz1 hz2 rfl (by decide) _ _ _ rfl hown0.out ad n _ (u64s x) rfl hul.out hnews.out (u64s_one x) hlen.out.1 hlen.out.2.1 hlen.out.2.2 ?_)
    intro v5 w5 hown5 hgrow5 _
    have hend := hiD (hfin.out w5 v5 (by simpa [u64s] using hown5) ((Hb1.out.alloc Hb1.out.size _).grown hgrow5 (by have := Hb1.out.size; simp; omega) (fun k hk => by cases hk; exact Hb1.out.size)))
    clear hown5 hgrow5
    go_wp2_with fail
    go_ret2
    exact hend.out
theorem natDiv_one (p : Option Addr) (n c0 : Nat) (x : List Nat) (q : Option Addr) (m0 d0 : Nat) (y : List Nat) (a b K : Nat) (w : World) (hK : K ≤ 1000000) (ha : a < B9 ^ K) (hb0 : 0 < b) (hb : b < B9) (hle : b ≤ a) (hnc : n ≤ c0 ∧ (p = none → c0 = 0)) (hx : Rd w p n x) (cx : Canon B9 x) (hxa : val B9 x = a)
    (hmc : m0 ≤ d0 ∧ (q = none → d0 = 0)) (hy : Rd w q m0 y) (cy : Canon B9 y) (hyb : val B9 y = b) :
    Calls Tryz.prog 136 #[.slice p n c0, .slice q m0 d0] w (DivPost9 a b w) := by
  have hm1 : m0 = 1 := by
    have h1 := pow9 cy hyb (K := 1) (by rw [Nat.pow_one]; exact hb) hy
    have h2 : m0 ≠ 0 := by
      rintro rfl
      have := hy.len
      rw [List.eq_nil_of_length_eq_zero this] at hyb
      simp [val] at hyb; omega
    omega
  subst hm1
  have hyl := hy.len
  obtain ⟨bd, rfl⟩ : ∃ z, y = [z] := by
    match y, hyl with
    | [z], _ => exact ⟨z, rfl⟩
  have hbd : bd = b := by simpa [val] using hyb
  subst hbd
  obtain ⟨b1, o1, d, rfl, hb1, hc1, hd⟩ := hy.at (k := 0) (by omega)
  have hdb : d = bd := by rw [← hd.out]; rfl
  subst hdb
  have hcmp : Hid (∀ W, Below w.heap.size w W → Calls Tryz.prog 69 #[.slice p n c0, .slice (some ⟨b1, o1, none⟩) 1 d0] W fun e w' => ∃ z : Int, 0 ≤ z ∧ e = .returned (.int .i64 z) ∧ Below w.heap.size w w') := hiD fun W hW => by
    have hx2 : Nat9 W (.slice p n c0) a := Nat9.below ⟨p, n, c0, x, rfl, hnc, hx, cx, hxa⟩ hW
    have h := natCmp_nat (.slice p n c0) (.slice (some ⟨b1, o1, none⟩) 1 d0) a d (K + 1) W (by unfold most; omega) (by rw [Nat.pow_succ, B9_eq] at *; omega) (by
      have : B9 ^ 1 ≤ B9 ^ (K + 1) := Nat.pow_le_pow_right B9_pos (by omega)
      rw [Nat.pow_one] at this; omega) hx2 (Nat9.below ⟨_, 1, d0, [d], rfl, hmc, hy, cy, hyb⟩ hW)
    refine h.mono fun e w' h => ?_
    obtain ⟨h1, t, h2⟩ := h
    refine ⟨cmp3 a d, ?_, h1, ?_⟩
    · unfold cmp3; rw [if_neg (by omega)]; split <;> omega
    · rw [← h2]; exact hW.trans (below_drewN _ _ _)
  have hsm : Hid (∀ W, Below w.heap.size w W → Calls Tryz.prog 174 #[.slice p n c0, .int .u64 (d : Int)] W (SmallPost a d W)) := hiD fun W hW => by
    have h := small_any p n c0 x d W (by have := pow9 cx hxa ha hx; unfold most; omega) (hx.below hW) cx.1 hb0 hb
    rw [hxa] at h; exact h
  have hno : Hid (∀ W, Calls Tryz.prog 70 #[.int .u64 ((a % d : Nat) : Int)] W (Post9 (a % d) W)) := hiD fun W => natOf_any _ W (by
    have := Nat.mod_lt a hb0
    rw [B9_eq] at hb; omega)
  have hcell : Hid (∀ W, Below w.heap.size w W → W.cell? ⟨b1, o1 + 0, none⟩ = some (.int .u64 (d : Int))) := hiD fun W hW => (hW.cell (p := ⟨b1, o1 + 0, none⟩) hb1).trans hc1
  obtain ⟨rr, hrr⟩ : ∃ rr, Hid (rr = a % d) := ⟨_, hiD rfl⟩
  rw [← hrr.out] at hno
  clear ha hb0 hb hle hnc hx cx hxa hmc hy cy hyb hyl hb1 hc1
  go_enter Tryz.func136, Tryz.ntmps136
  go_wp2_with fail
  refine (hcmp.out _ (Below.refl _ _)).mono ?_
  rintro e w1 ⟨z, hz, rfl, hb1⟩
  have hzl : decide (z < 0) = false := by simp; exact hz
  have Hb1 := hiD hb1
  have hc := hcell.out w1 hb1
  rw [Nat.add_zero] at hc
  have hs1 := hsm.out w1 hb1
  have Hs1 := hiD hs1
  clear hb1 hs1 hz
  go_wp2_with fail
  refine Hs1.out.mono ?_
  rintro e w2 ⟨v, rfl, hv, hb2, _⟩
  obtain ⟨pv, nv, cv, rfl⟩ := hv.slice
  rw [← hrr.out]
  have Hv := hiD hv
  have Hb2 := hiD (Hb1.out.trans (hb2.mono Hb1.out.size))
  clear hv hb2
  go_wp2_with fail
  refine (hno.out _).mono ?_
  rintro e w3 ⟨v3, rfl, hv3, hb3, _⟩
  obtain ⟨pv3, nv3, cv3, rfl⟩ := hv3.slice
  have hend : Hid (DivPost9 a d w (.returned (.tuple #[.slice pv nv cv, .slice pv3 nv3 cv3])) w3) := hiD ⟨_, _, rfl, Hv.out.below hb3, by rw [← hrr.out]; exact hv3, Hb2.out.trans (hb3.mono Hb2.out.size)⟩
  clear hv3 hb3
  go_wp2_with fail
  go_ret2
  exact hend.out
theorem natDiv_small (u v : Value) (a b K : Nat) (w : World) (hK : K ≤ 1000000) (hK1 : 1 ≤ K) (ha : a < B9 ^ K) (hb0 : 0 < b) (hb : b < B9) (hu : Nat9 w u a) (hv : Nat9 w v b) :
    Calls Tryz.prog 136 #[u, v] w (DivPost9 a b w) := by
  obtain ⟨p, n, c, x, rfl, h1, h2, h3, h4⟩ := hu
  by_cases h : a < b
  · exact natDiv_lt p n c x v a b K w hK ha (by
      have : B9 ^ 1 ≤ B9 ^ K := Nat.pow_le_pow_right B9_pos hK1
      rw [Nat.pow_one] at this; omega) h h1 h2 h3 h4 hv
  · obtain ⟨q, m, d, y, rfl, g1, g2, g3, g4⟩ := hv
    exact natDiv_one p n c x q m d y a b K w hK ha hb0 hb (by omega) h1 h2 h3 h4 g1 g2 g3 g4
end Go.Proofs.YtoegbjmoecbjdaaGreatDoor
