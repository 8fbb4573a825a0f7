/- The document's Round on texts. -/
import Derived.Test.YtpnofkefcoaojaaGreatDoorKA
import Derived.Test.YtpnofkefcoaojaaGreatDoorVSC
set_option maxHeartbeats 3200000
set_option maxRecDepth 100000
namespace Go.Proofs.YtpnofkefcoaojaaGreatDoor
open Go.RowKit Big
open Go.Lib
def rndT (l k : List UInt8) : List UInt8 := match num l, num k with
  | some a, some b => if sgnQ b = 1 then txt (rndQ a b) else []
  | _, _ => []
end Go.Proofs.YtpnofkefcoaojaaGreatDoor
namespace Go.Proofs.YtpnofkefcoaojaaGreatDoor
open Go.RowKit Big
open Go.Lib
theorem floorN_scale (s : Bool) (a b k : Nat) (hk : 0 < k) : floorN s (a * k) (b * k) = floorN s a b := by
  unfold floorN
  rw [Nat.mul_div_mul_right a b hk, Nat.mul_mod_mul_right k a b]
  have e : (a % b * k == 0) = (a % b == 0) := by
    by_cases h : a % b = 0
    · simp [h]
    · have h2 : a % b * k ≠ 0 := Nat.mul_ne_zero h (by omega)
      rw [beq_eq_false_iff_ne.2 h, beq_eq_false_iff_ne.2 h2]
  rw [e]
theorem flo_ratv {s : Bool} {a b : Nat} (hb : 0 < b) (hs : s = true → 0 < a) : ratv s (floorN s a b) 1 = floQ (ratv s a b) := by
  obtain ⟨h1, h2, h3⟩ := ratv_num hb hs
  unfold floQ
  rw [h1, h2, h3]
  have hg : 0 < Nat.gcd a b := Nat.gcd_pos_of_pos_right _ hb
  have h := floorN_scale s (a / Nat.gcd a b) (b / Nat.gcd a b) _ hg
  rw [Nat.div_mul_cancel (Nat.gcd_dvd_left a b), Nat.div_mul_cancel (Nat.gcd_dvd_right a b)] at h
  rw [h]
theorem floor_is (x : Value) (q : Rat) (K : Nat) (w : World) (hK : K + 2 ≤ 1073741824) (hx : RatIs w x q K) : Calls Tryz.prog 90 #[x] w (IsPost (floQ q) (K + 1) w) := by
  obtain ⟨s, a, b, h1, h2, h3, h4, h5⟩ := hx
  have hs : s = true → 0 < a := by obtain ⟨u, v, -, -, -, hs⟩ := h1; exact hs
  refine (floor_any x s a b K w hK h4 h5 h3 h1).mono ?_
  rintro e w' ⟨z, rfl, hz, hb⟩
  have e1 : B64 ^ (K + 1) = B64 ^ K * 18446744073709551616 := by rw [Nat.pow_succ, B64_eq]
  have hp : 0 < B64 ^ K := Nat.lt_of_le_of_lt (Nat.zero_le _) h4
  have h6 : a / b < B64 ^ K := Nat.lt_of_le_of_lt (Nat.div_le_self _ _) h4
  have h7 : floorN s a b ≤ a / b + 1 := by
    unfold floorN
    split <;> omega
  exact ⟨z, rfl, ⟨_, _, _, hz, by rw [ratv_drop, flo_ratv h3 hs, h2], by omega, by omega, by omega⟩, hb⟩
end Go.Proofs.YtpnofkefcoaojaaGreatDoor
namespace Go.Proofs.YtpnofkefcoaojaaGreatDoor
open Go.RowKit Big
open Go.Lib
theorem Two.rfin {B : Nat} {s : Bool} {u1 v1 : Value} {t : Bool} {u2 v2 : Value} {w0 W : World} (h : Two B s u1 v1 t u2 v2 w0 W) (hB : w0.heap.size ≤ B) {a : Bool} {p q : Option Addr} {n c m d K : Nat} {r : Rat} (hr : RatIs W (.agg #[.bool a, .slice p n c, .slice q m d]) r K) :
    IsPost r K w0 (.returned (.agg #[.bool a, .slice p n c, .slice q m d])) (((W.setCell ⟨B + 1 + 1, 0, none⟩ (.bool a)).setCell ⟨B + 1 + 1, 1, none⟩ (.slice p n c)).setCell ⟨B + 1 + 1, 2, none⟩ (.slice q m d)) := by
  obtain ⟨s', x, y, ⟨u, v, he, hu, hv, hs⟩, h2, h3, h4, h5⟩ := hr
  cases he
  exact ⟨_, rfl, ⟨_, _, _, ⟨_, _, rfl, h.nat3 hB hu _ _ _ _ _ _ _, h.nat3 hB hv _ _ _ _ _ _ _, hs⟩, h2, h3, h4, h5⟩, (h.put3 hB _ _ _ _ _ _ _).below⟩
structure TwoH (B g : Nat) (s : Bool) (u1 v1 : Value) (t : Bool) (u2 v2 : Value) (x0 x1 x2 : Value) (w0 W : World) : Prop where
  two : Two B s u1 v1 t u2 v2 w0 W
  hg : g < w0.heap.size
  hb : w0.heap.size ≤ B
  h : W.heap[g]? = some (.cells #[x0, x1, x2] 98 (0, 0))
section
variable {B g : Nat} {s : Bool} {u1 v1 : Value} {t : Bool} {u2 v2 : Value} {x0 x1 x2 : Value} {w0 W W' : World}
theorem TwoH.next (h : TwoH B g s u1 v1 t u2 v2 x0 x1 x2 w0 W) (hb : Below W.heap.size W W') : TwoH B g s u1 v1 t u2 v2 x0 x1 x2 w0 W' :=
  ⟨h.two.next hb, h.hg, h.hb, (hb.block _ (by have := h.two.size; have := h.hg; have := h.hb; omega)).trans h.h⟩
theorem TwoH.drew (h : TwoH B g s u1 v1 t u2 v2 x0 x1 x2 w0 W) : TwoH B g s u1 v1 t u2 v2 x0 x1 x2 w0 W.drew := ⟨h.two.drew, h.hg, h.hb, h.h⟩
theorem TwoH.below (h : TwoH B g s u1 v1 t u2 v2 x0 x1 x2 w0 W) : Below w0.heap.size w0 W := h.two.below
theorem TwoH.put3 (h : TwoH B g s u1 v1 t u2 v2 x0 x1 x2 w0 W) (a : Bool) (p q : Option Addr) (n c m d : Nat) : TwoH B g s u1 v1 t u2 v2 x0 x1 x2 w0 (((W.setCell ⟨B + 1 + 1, 0, none⟩ (.bool a)).setCell ⟨B + 1 + 1, 1, none⟩ (.slice p n c)).setCell ⟨B + 1 + 1, 2, none⟩ (.slice q m d)) :=
  have hne : g ≠ B + 1 + 1 := by have := h.hg; have := h.hb; omega
  ⟨h.two.put3 h.hb _ _ _ _ _ _ _, h.hg, h.hb, ((Below.heap_setCell _ _ _ _ hne).trans (Below.heap_setCell _ _ _ _ hne)).trans ((Below.heap_setCell _ _ _ _ hne).trans h.h)⟩
theorem TwoH.all (h : TwoH B g s u1 v1 t u2 v2 x0 x1 x2 w0 W) : TwoH B g s u1 v1 t u2 v2 x0 x1 x2 w0 W ∧ W.cell? ⟨B, 0, none⟩ = some (.bool s) ∧ W.cell? ⟨B, 1, none⟩ = some u1 ∧ W.cell? ⟨B, 2, none⟩ = some v1 ∧
    W.cell? ⟨B + 1, 0, none⟩ = some (.bool t) ∧ W.cell? ⟨B + 1, 1, none⟩ = some u2 ∧ W.cell? ⟨B + 1, 2, none⟩ = some v2 ∧ W.cell? ⟨g, 0, none⟩ = some x0 ∧ W.cell? ⟨g, 1, none⟩ = some x1 ∧ W.cell? ⟨g, 2, none⟩ = some x2 :=
  ⟨h, ceh h.two.x 0, ceh h.two.x 1, ceh h.two.x 2, ceh h.two.y 0, ceh h.two.y 1, ceh h.two.y 2, ceh h.h 0, ceh h.h 1, ceh h.h 2⟩
end
theorem round_body (x y : Value) (a b : Rat) (g : Nat) (x0 x1 x2 : Value) (w : World) (hb0 : b ≠ 0) (hx : RatIs w x a 20) (hy : RatIs w y b 20) (hg : g < w.heap.size) (hh : w.heap[g]? = some (.cells #[x0, x1, x2] 98 (0, 0))) (hr : RatIs w (.agg #[x0, x1, x2]) halfQ 2) :
    Calls Tryz.prog 88 #[x, y, .pointer (some ⟨g, 0, none⟩)] w (IsPost (rndQ a b) 164 w) := by
  obtain ⟨f1, hf1⟩ : ∃ f, Hid (f = a / b) := ⟨_, hiD rfl⟩
  obtain ⟨f2, hf2⟩ : ∃ f, Hid (f = f1 + halfQ) := ⟨_, hiD rfl⟩
  obtain ⟨f3, hf3⟩ : ∃ f, Hid (f = floQ f2) := ⟨_, hiD rfl⟩
  obtain ⟨f4, hf4⟩ : ∃ f, Hid (f = f3 * b) := ⟨_, hiD rfl⟩
  have he : rndQ a b = f4 := by rw [hf4.out, hf3.out, hf2.out, hf1.out]; rfl
  rw [he]
  have hq1 : Hid (∀ W, Below w.heap.size w W → Calls Tryz.prog 79 #[x, y] W (IsPost f1 40 W)) := hiD fun W hW => by
    rw [hf1.out]; exact quo_is x y a b 20 W (by omega) hb0 (hx.below hW) (hy.below hW)
  have hq2 : Hid (∀ W u, Below w.heap.size w W → RatIs W u f1 40 → Calls Tryz.prog 89 #[u, .agg #[x0, x1, x2]] W (IsPost f2 81 W)) := hiD fun W u hW hu => by
    rw [hf2.out]; exact add_is u _ f1 halfQ 40 W (by omega) hu ((hr.below hW).more (by omega))
  have hq3 : Hid (∀ W u, RatIs W u f2 81 → Calls Tryz.prog 90 #[u] W (IsPost f3 82 W)) := hiD fun W u hu => by
    rw [hf3.out]; exact floor_is u f2 81 W (by omega) hu
  have hq4 : Hid (∀ W u, Below w.heap.size w W → RatIs W u f3 82 → Calls Tryz.prog 91 #[u, y] W (IsPost f4 164 W)) := hiD fun W u hW hu => by
    rw [hf4.out]; exact mul_is u y f3 b 82 W (by omega) hu ((hy.below hW).more (by omega))
  obtain ⟨y0, e0, e1, e2, e3, e4, e5, he0⟩ := hr.agg
  cases he0
  obtain ⟨s, p1, n1, c1, p2, n2, c2, rfl⟩ := hx.agg
  obtain ⟨t, p3, n3, c3, p4, n4, c4, rfl⟩ := hy.agg
  have htwo : TwoH w.heap.size g s (.slice p1 n1 c1) (.slice p2 n2 c2) t (.slice p3 n3 c3) (.slice p4 n4 c4) (.bool y0) (.slice e0 e1 e2) (.slice e3 e4 e5) w _ :=
    ⟨Two.start w s (.slice p1 n1 c1) (.slice p2 n2 c2) t (.slice p3 n3 c3) (.slice p4 n4 c4), hg, Nat.le_refl _, ((Two.start w s (.slice p1 n1 c1) (.slice p2 n2 c2) t (.slice p3 n3 c3) (.slice p4 n4 c4)).below.block _ hg).trans hh⟩
  have Htwo := hiD htwo
  obtain ⟨-, k0, k1, k2, k3, k4, k5, k6, k7, k8⟩ := htwo.all
  clear htwo hx hy hr hg hh he
  go_enter Tryz.func88, Tryz.ntmps88
  go_wp2_with fail
  go_region_held3 (fun w' => TwoH w.heap.size g s (.slice p1 n1 c1) (.slice p2 n2 c2) t (.slice p3 n3 c3) (.slice p4 n4 c4) (.bool y0) (.slice e0 e1 e2) (.slice e3 e4 e5) w w' ∧ w'.cell? ⟨w.heap.size, 0, none⟩ = some (.bool s) ∧ w'.cell? ⟨w.heap.size, 1, none⟩ = some (.slice p1 n1 c1) ∧ w'.cell? ⟨w.heap.size, 2, none⟩ = some (.slice p2 n2 c2) ∧ w'.cell? ⟨w.heap.size + 1, 0, none⟩ = some (.bool t) ∧ w'.cell? ⟨w.heap.size + 1, 1, none⟩ = some (.slice p3 n3 c3) ∧ w'.cell? ⟨w.heap.size + 1, 2, none⟩ = some (.slice p4 n4 c4) ∧ w'.cell? ⟨g, 0, none⟩ = some (.bool y0) ∧ w'.cell? ⟨g, 1, none⟩ = some (.slice e0 e1 e2) ∧ w'.cell? ⟨g, 2, none⟩ = some (.slice e3 e4 e5))
    (first | exact TwoH.all (TwoH.drew Htwo.out) | exact TwoH.all Htwo.out | (go_split_ands; exact TwoH.all (TwoH.next (by assumption) hb1)) | (go_split_ands; exact TwoH.all (TwoH.next (by assumption) hb2)) | (go_split_ands; exact TwoH.all (TwoH.next (by assumption) hb3)) | (go_split_ands; exact TwoH.all (TwoH.next (by assumption) hb4)) | (go_split_ands; exact TwoH.all (TwoH.put3 (by assumption) _ _ _ _ _ _ _)) | go_keep)
    (first | (go_at_call 79; go_split_ands; refine (hq1.out _ (TwoH.below (by assumption))).mono ?_; rintro e w1 ⟨z1, rfl, hz1, hb1⟩; obtain ⟨m0, m1, m2, m3, m4, m5, m6, rfl⟩ := hz1.agg) | (go_at_call 89; go_split_ands; refine (hq2.out _ _ (TwoH.below (by assumption)) hz1).mono ?_; rintro e w2 ⟨z2, rfl, hz2, hb2⟩; obtain ⟨a0, a1, a2, a3, a4, a5, a6, rfl⟩ := hz2.agg) | (go_at_call 90; go_split_ands; refine (hq3.out _ _ hz2).mono ?_; rintro e w3 ⟨z3, rfl, hz3, hb3⟩; obtain ⟨d0, d1, d2, d3, d4, d5, d6, rfl⟩ := hz3.agg) | (go_at_call 91; go_split_ands; refine (hq4.out _ _ (TwoH.below (by assumption)) hz3).mono ?_; rintro e w4 ⟨z4, rfl, hz4, hb4⟩; obtain ⟨r0, r1, r2, r3, r4, r5, r6, rfl⟩ := hz4.agg; have htw := TwoH.next (by assumption) hb4; obtain ⟨j0, j1, j2, l0, l1, l2, g0, g1, g2⟩ := Two.slots htw.two))
  go_wp2_with fail
  have hfin := hiD (htw.two.rfin (Nat.le_refl _) hz4)
  refine bodyPost_ret (v := .agg #[.bool r0, .slice r1 r2 r3, .slice r4 r5 r6]) (by simp [results, Tryz.results88, go_sem, l0, l1, l2]) rfl ?_
  exact hfin.out
end Go.Proofs.YtpnofkefcoaojaaGreatDoor
set_option maxHeartbeats 3200000
set_option maxRecDepth 100000
namespace Go.Proofs.YtpnofkefcoaojaaGreatDoor
open Go.RowKit Big
open Go.Lib
theorem closure_cap (x y : ByteArray) (g gh : Nat) (p q r : Rat) (K : Nat) (w : World) (hg : g < w.heap.size) (hcl : w.cell? ⟨g, 0, none⟩ = some (.func (.func 88) #[] #[.pointer (some ⟨gh, 0, none⟩)])) (hx : Hid (Calls Tryz.prog 130 #[.string x] w (NumPost (some p) w))) (hy : ∀ W, Below w.heap.size w W → Hid (Calls Tryz.prog 130 #[.string y] W (NumPost (some q) W)))
    (hop : ∀ W u v, Below w.heap.size w W → RatIs W u p 20 → RatIs W v q 20 → Hid (Calls Tryz.prog 88 #[u, v, .pointer (some ⟨gh, 0, none⟩)] W (IsPost r K W)))
    (ht : ∀ W z, Below w.heap.size w W → RatIs W z r K → Hid (Calls Tryz.prog 131 #[z] W fun e w' => e = .returned (.string ⟨(txt r).toArray⟩) ∧ Below W.heap.size W w')) : Calls Tryz.prog 129 #[.string x, .string y, .pointer (some ⟨g, 0, none⟩)] w fun e w' => e = .returned (.string ⟨(txt r).toArray⟩) ∧ Below w.heap.size w w' := by
  have Hcl := hiD hcl
  have Hg := hiD hg
  clear hcl hg
  go_enter Tryz.func129, Tryz.ntmps129
  go_wp2_with fail
  refine hx.out.mono ?_
  rintro e w2 ⟨hb2, b1, p1, n1, c1, q1, m1, d1, rfl, hr1⟩
  have hbw := hiD (hb2.trans ((bea w2 (.cells #[.bool b1, .slice p1 n1 c1, .slice q1 m1 d1] 98)).mono hb2.size))
  have hR1 := hiD ((hr1 _ rfl).below (bea w2 (.cells #[.bool b1, .slice p1 n1 c1, .slice q1 m1 d1] 98)))
  have hb1 := hiD (heap_new w2 (.cells #[.bool b1, .slice p1 n1 c1, .slice q1 m1 d1] 98))
  have hy2 := hy _ hbw.out
  clear hb2 hy hr1
  go_wp2_with fail
  refine hy2.out.mono ?_
  rintro e w3 ⟨hb3, b', p', n', c', q', m', d', rfl, hr3⟩
  have hbw3 := hiD (hbw.out.trans (hb3.mono hbw.out.size))
  have hbw4 := hiD (hbw3.out.trans ((bea w3 (.cells #[.bool b', .slice p' n' c', .slice q' m' d'] 98)).mono hbw3.out.size))
  have hA := hiD (bea w3 (.cells #[.bool b', .slice p' n' c', .slice q' m' d'] 98))
  have hR3 := hiD ((hr3 _ rfl).below hA.out)
  have hR2 := hiD ((hR1.out.below hb3).below hA.out)
  have hbox := (hb3.trans (hA.out.mono hb3.size)).block w2.heap.size (by simp)
  have hbx := hbox.trans hb1.out
  have e0 := ceh hbx 0
  have e1 := ceh hbx 1
  have e2 := ceh hbx 2
  have hcl4 := (hbw4.out.cell (p := ⟨g, 0, none⟩) Hg.out).trans Hcl.out
  have hop4 := hop _ _ _ hbw4.out hR2.out hR3.out
  clear hb3 hy2 hr3 hbox hbx hop
  go_wp2_with fail
  refine hop4.out.mono ?_
  rintro e w5 ⟨z, rfl, hz, hb5⟩
  have hbw5 := hiD (hbw4.out.trans (hb5.mono hbw4.out.size))
  have ht5 := ht _ _ hbw5.out hz
  clear hb5 hz ht hop4
  go_wp2_with fail
  refine ht5.out.mono ?_
  rintro e w6 ⟨rfl, hb6⟩
  have hbw6 := hiD (hbw5.out.trans (hb6.mono hbw5.out.size))
  clear hb6
  go_wp2_with fail
  go_ret
  exact ⟨rfl, hbw6.out⟩
theorem onTexts_cap (c : Array Value) (w : World) : Calls Tryz.prog 78 #[.func (.func 88) #[] c] w fun e w' => e = .returned (.func (.func 129) #[] #[.pointer (some ⟨w.heap.size, 0, none⟩)]) ∧ w' = w.alloc (.cells #[.func (.func 88) #[] c] 94) := by
  go_enter Tryz.func78, Tryz.ntmps78
  go_wp2_with fail
  go_ret
  exact ⟨rfl, rfl⟩
theorem two_is (w : World) : Calls Tryz.prog 87 #[.int .i64 2] w (IsPost 2 1 w) := by
  refine (int_any 2 w (by omega)).mono ?_
  rintro e w' ⟨z, rfl, hz, hb⟩
  have h1 : 2 < B64 ^ 1 := by rw [Nat.pow_one, B64_eq]; omega
  refine ⟨z, rfl, ⟨_, _, _, hz, ?_, by omega, h1, by omega⟩, hb⟩
  rw [ratv_drop]; unfold ratv; simp; grind
theorem half_is : (1 : Rat) / 2 = halfQ := by unfold halfQ; rfl
theorem round_call (x y : ByteArray) (a b : Rat) (gh : Nat) (x0 x1 x2 : Value) (W : World) (htab : Tab W) (hb0 : b ≠ 0) (hx : num x.data.toList = some a) (hy : num y.data.toList = some b) (hg : gh < W.heap.size) (hh : W.heap[gh]? = some (.cells #[x0, x1, x2] 98 (0, 0))) (hr : RatIs W (.agg #[x0, x1, x2]) halfQ 2) :
    Calls Tryz.prog 129 #[.string x, .string y, .pointer (some ⟨W.heap.size, 0, none⟩)] (W.alloc (.cells #[.func (.func 88) #[] #[.pointer (some ⟨gh, 0, none⟩)]] 94)) fun e w' => e = .returned (.string ⟨(txt (rndQ a b)).toArray⟩) ∧ Below W.heap.size W w' := by
  have hb := bea W (.cells #[.func (.func 88) #[] #[.pointer (some ⟨gh, 0, none⟩)]] 94)
  have htab1 := htab.below hb
  have hq : ∀ (s : ByteArray) (q : Rat) (W' : World), Tab W' → num s.data.toList = some q → Calls Tryz.prog 130 #[.string s] W' (NumPost (some q) W') := fun s q W' ht h => by
    have := qread_is s W' ht
    rwa [h] at this
  refine (closure_cap x y W.heap.size gh a b (rndQ a b) 164 _ (by simp) (ceh (heap_new W _) 0) (hiD (hq x a _ htab1 hx)) (fun W' hW => hiD (hq y b _ (htab1.below hW) hy)) (fun W' u v hW hu hv => hiD ?_) (fun W' z hW hz => hiD (qtext_is z _ 164 W' (by omega) hz (htab1.below hW)))).mono ?_
  · have hbW := hb.trans (hW.mono hb.size)
    exact round_body u v a b gh x0 x1 x2 W' hb0 hu hv (Nat.lt_of_lt_of_le hg hbW.size) ((hbW.block _ hg).trans hh) (hr.below hbW)
  · rintro e w' ⟨he, hb2⟩
    exact ⟨he, hb.trans (hb2.mono hb.size)⟩
theorem round_call_bad (x y : ByteArray) (gh : Nat) (W : World) (htab : Tab W) (hx : num x.data.toList = none) :
    Calls Tryz.prog 129 #[.string x, .string y, .pointer (some ⟨W.heap.size, 0, none⟩)] (W.alloc (.cells #[.func (.func 88) #[] #[.pointer (some ⟨gh, 0, none⟩)]] 94)) fun e w' => e = .returned (.string ⟨#[]⟩) ∧ Below W.heap.size W w' := by
  have hb := bea W (.cells #[.func (.func 88) #[] #[.pointer (some ⟨gh, 0, none⟩)]] 94)
  have h := qread_c x _ (htab.below hb)
  have hr : readQ x.data.toList = none := by unfold num at hx; simpa using hx
  rw [hr] at h
  exact (closure_bad1 x y _ _ (hiD h)).mono fun e w' h => ⟨h.1, hb.trans (h.2.mono hb.size)⟩
theorem pround_neg (x y : ByteArray) (w : World) (hp : ∀ W, Below w.heap.size w W → Hid (Calls Tryz.prog 86 #[.string y] W fun e w' => e = .returned (.bool false) ∧ Below W.heap.size W w')) : Calls Tryz.prog 45 #[.string x, .string y] w (TxtPost [] w) := by
  unfold TxtPost
  have hp0 := hp w (Below.refl _ _)
  clear hp
  go_enter Tryz.func45, Tryz.ntmps45
  go_wp2_with fail
  refine hp0.out.mono ?_
  rintro e w1 ⟨rfl, hb1⟩
  have Hb1 := hiD hb1
  clear hb1
  go_wp2_with fail
  go_ret
  exact ⟨rfl, Hb1.out⟩
end Go.Proofs.YtpnofkefcoaojaaGreatDoor
namespace Go.Proofs.YtpnofkefcoaojaaGreatDoor
open Go.RowKit Big
open Go.Lib
theorem half_quo (W : World) (u v : Value) (hu : RatIs W u 1 1) (hv : RatIs W v 2 1) : Calls Tryz.prog 79 #[u, v] W (IsPost halfQ 2 W) := by
  have h2 : (2 : Rat) ≠ 0 := by
    have := natCast_ne (b := 2) (by omega)
    exact this
  have h := quo_is u v 1 2 1 W (by omega) h2 hu hv
  rw [half_is] at h
  exact h
theorem pround_walk (x y r : ByteArray) (w : World) (hp : Hid (Calls Tryz.prog 86 #[.string y] w fun e w' => e = .returned (.bool true) ∧ Below w.heap.size w w'))
    (hcl : Hid (∀ W gh x0 x1 x2 B, B = W.heap.size → Below w.heap.size w W → gh < W.heap.size → W.heap[gh]? = some (.cells #[x0, x1, x2] 98 (0, 0)) → RatIs W (.agg #[x0, x1, x2]) halfQ 2 → Calls Tryz.prog 129 #[.string x, .string y, .pointer (some ⟨B, 0, none⟩)] (W.alloc (.cells #[.func (.func 88) #[] #[.pointer (some ⟨gh, 0, none⟩)]] 94)) fun e w' => e = .returned (.string r) ∧ Below W.heap.size W w')) :
    Calls Tryz.prog 45 #[.string x, .string y] w fun e w' => e = .returned (.string r) ∧ Below w.heap.size w w' := by
  have h1 : Hid (∀ W, Calls Tryz.prog 87 #[.int .i64 1] W (IsPost 1 1 W)) := hiD one_is
  have h2 : Hid (∀ W, Calls Tryz.prog 87 #[.int .i64 2] W (IsPost 2 1 W)) := hiD two_is
  have hq := hiD half_quo
  go_enter Tryz.func45, Tryz.ntmps45
  go_wp2_with fail
  refine hp.out.mono ?_
  rintro e w1 ⟨rfl, hb1⟩
  have Hb1 := hiD hb1
  clear hb1
  go_wp2_with fail
  refine (h1.out _).mono ?_
  rintro e w2 ⟨u, rfl, hu, hb2⟩
  have Hb2 := hiD (Hb1.out.trans (hb2.mono Hb1.out.size))
  have Hu := hiD hu
  obtain ⟨a0, a1, a2, a3, a4, a5, a6, rfl⟩ := hu.agg
  clear hb2 hu
  go_wp2_with fail
  refine (h2.out _).mono ?_
  rintro e w3 ⟨v, rfl, hv, hb3⟩
  have Hb3 := hiD (Hb2.out.trans (hb3.mono Hb2.out.size))
  have Hq := hiD (hq.out _ _ _ (Hu.out.below hb3) hv)
  obtain ⟨d0, d1, d2, d3, d4, d5, d6, rfl⟩ := hv.agg
  clear hb3 hv
  go_wp2_with fail
  refine Hq.out.mono ?_
  rintro e w4 ⟨z, rfl, hz, hb4⟩
  have Hb4 := hiD (Hb3.out.trans (hb4.mono Hb3.out.size))
  obtain ⟨m0, m1, m2, m3, m4, m5, m6, rfl⟩ := hz.agg
  have hA := bea w4 (.cells #[.bool m0, .slice m1 m2 m3, .slice m4 m5 m6] 98)
  have Hc := hiD (hcl.out (w4.alloc (.cells #[.bool m0, .slice m1 m2 m3, .slice m4 m5 m6] 98)) w4.heap.size _ _ _ (w4.heap.size + 1) (by simp) (Hb4.out.trans (hA.mono Hb4.out.size)) (by simp) (heap_new _ _) (hz.below hA))
  have Hb5 := hiD (Hb4.out.trans (hA.mono Hb4.out.size))
  clear hb4 hz hA
  go_wp2_with fail
  refine (onTexts_cap _ _).mono ?_
  rintro e w5 ⟨rfl, rfl⟩
  go_wp2_with fail
  refine Hc.out.mono ?_
  rintro e w6 ⟨rfl, hb6⟩
  have Hb6 := hiD (Hb5.out.trans (hb6.mono Hb5.out.size))
  clear hb6
  go_wp2_with fail
  go_ret
  exact ⟨rfl, Hb6.out⟩
theorem sgn_pos (q : Rat) : sgnQ q = 1 ↔ 0 < q := by
  rw [sgn_same]
  unfold sgnR
  constructor
  · intro h
    split at h
    · omega
    · split at h
      · omega
      · rename_i h1 h2; grind
  · intro h
    rw [if_neg (by grind), if_neg (by grind)]
theorem pround_any (x y : ByteArray) (w : World) (htab : Tab w) : Calls Tryz.prog 45 #[.string x, .string y] w (TxtPost (rndT x.data.toList y.data.toList) w) := by
  have hp := fun W (hb : Below w.heap.size w W) => isPositive_q y W (htab.below hb)
  cases hpy : posT y.data.toList with
  | false =>
    rw [hpy] at hp
    have e : rndT x.data.toList y.data.toList = [] := by
      unfold posT at hpy
      unfold rndT
      cases hx : num x.data.toList with
      | none => rfl
      | some a =>
        cases hy : num y.data.toList with
        | none => rfl
        | some b =>
          rw [hy] at hpy
          have h0 : ¬ sgnQ b = 1 := fun h => by rw [sgn_pos] at h; simp at hpy; grind
          simp only [h0, if_false]
    rw [e]
    exact pround_neg x y w fun W hb => hiD (hp W hb)
  | true =>
    rw [hpy] at hp
    have hp0 := hiD (hp w (Below.refl _ _))
    unfold posT at hpy
    cases hy : num y.data.toList with
    | none => rw [hy] at hpy; cases hpy
    | some b =>
      rw [hy] at hpy
      have hb0 : 0 < b := by simpa using hpy
      unfold TxtPost rndT
      rw [hy]
      cases hx : num x.data.toList with
      | none => exact pround_walk x y _ w hp0 (hiD fun W gh x0 x1 x2 B hB hb hg hh hr => by rw [hB]; exact round_call_bad x y gh W (htab.below hb) hx)
      | some a =>
        have h1 : sgnQ b = 1 := (sgn_pos b).2 hb0
        simp only [h1, if_true]
        exact pround_walk x y _ w hp0 (hiD fun W gh x0 x1 x2 B hB hb hg hh hr => by rw [hB]; exact round_call x y a b gh x0 x1 x2 W (htab.below hb) (by grind) hx hy hg hh hr)
end Go.Proofs.YtpnofkefcoaojaaGreatDoor
namespace Go.Proofs.YtpnofkefcoaojaaGreatDoor
open Go.RowKit Go.Lib Big
end Go.Proofs.YtpnofkefcoaojaaGreatDoor
