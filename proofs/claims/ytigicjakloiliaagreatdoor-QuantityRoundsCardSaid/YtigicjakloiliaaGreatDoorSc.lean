/- The program's Round. -/
import Derived.Test.YtigicjakloiliaaGreatDoorSb
set_option maxHeartbeats 3200000
set_option maxRecDepth 100000
namespace Go.Proofs.YtigicjakloiliaaGreatDoor
open Go.RowKit Big
open Go.Lib
theorem closure_cap (x y : ByteArray) (g gh : Nat) (p q r : Rat) (K : Nat) (w : World) (hg : g < w.heap.size) (hcl : w.cell? ⟨g, 0, none⟩ = some (.func (.func 92) #[] #[.pointer (some ⟨gh, 0, none⟩)])) (hx : Hid (Calls Tryz.prog 75 #[.string x] w (NumPost (some p) w))) (hy : ∀ W, Below w.heap.size w W → Hid (Calls Tryz.prog 75 #[.string y] W (NumPost (some q) W)))
    (hop : ∀ W u v, Below w.heap.size w W → RatIs W u p 20 → RatIs W v q 20 → Hid (Calls Tryz.prog 92 #[u, v, .pointer (some ⟨gh, 0, none⟩)] W (IsPost r K W)))
    (ht : ∀ W z, Below w.heap.size w W → RatIs W z r K → Hid (Calls Tryz.prog 72 #[z] W fun e w' => e = .returned (.string ⟨(txt r).toArray⟩) ∧ Below W.heap.size W w')) : Calls Tryz.prog 138 #[.string x, .string y, .pointer (some ⟨g, 0, none⟩)] w fun e w' => e = .returned (.string ⟨(txt r).toArray⟩) ∧ Below w.heap.size w w' := by
  have Hcl := Lib.hid hcl
  have Hg := Lib.hid hg
  clear hcl hg
  go_enter Tryz.func138, Tryz.ntmps138
  go_wp2_with fail
  refine hx.out.mono ?_
  rintro e w2 ⟨hb2, b1, p1, n1, c1, q1, m1, d1, rfl, hr1⟩
  have hbw := Lib.hid (hb2.trans ((below_alloc w2 (.cells #[.bool b1, .slice p1 n1 c1, .slice q1 m1 d1] 69)).mono hb2.size))
  have hR1 := Lib.hid ((hr1 _ rfl).below (below_alloc w2 (.cells #[.bool b1, .slice p1 n1 c1, .slice q1 m1 d1] 69)))
  have hb1 := Lib.hid (heap_new w2 (.cells #[.bool b1, .slice p1 n1 c1, .slice q1 m1 d1] 69))
  have hy2 := hy _ hbw.out
  clear hb2 hy hr1
  go_wp2_with fail
  refine hy2.out.mono ?_
  rintro e w3 ⟨hb3, b', p', n', c', q', m', d', rfl, hr3⟩
  have hbw3 := Lib.hid (hbw.out.trans (hb3.mono hbw.out.size))
  have hbw4 := Lib.hid (hbw3.out.trans ((below_alloc w3 (.cells #[.bool b', .slice p' n' c', .slice q' m' d'] 69)).mono hbw3.out.size))
  have hA := Lib.hid (below_alloc w3 (.cells #[.bool b', .slice p' n' c', .slice q' m' d'] 69))
  have hR3 := Lib.hid ((hr3 _ rfl).below hA.out)
  have hR2 := Lib.hid ((hR1.out.below hb3).below hA.out)
  have hbox := (hb3.trans (hA.out.mono hb3.size)).block w2.heap.size (by simp)
  have hbx := hbox.trans hb1.out
  have e0 := cell_of_heap hbx 0
  have e1 := cell_of_heap hbx 1
  have e2 := cell_of_heap hbx 2
  have hcl4 := (hbw4.out.cell (p := ⟨g, 0, none⟩) Hg.out).trans Hcl.out
  have hop4 := hop _ _ _ hbw4.out hR2.out hR3.out
  clear hb3 hy2 hr3 hbox hbx hop
  go_wp2_with fail
  refine hop4.out.mono ?_
  rintro e w5 ⟨z, rfl, hz, hb5⟩
  have hbw5 := Lib.hid (hbw4.out.trans (hb5.mono hbw4.out.size))
  have ht5 := ht _ _ hbw5.out hz
  clear hb5 hz ht hop4
  go_wp2_with fail
  refine ht5.out.mono ?_
  rintro e w6 ⟨rfl, hb6⟩
  have hbw6 := Lib.hid (hbw5.out.trans (hb6.mono hbw5.out.size))
  clear hb6
  go_wp2_with fail
  go_ret
  exact ⟨rfl, hbw6.out⟩
theorem onTexts_cap (c : Array Value) (w : World) : Calls Tryz.prog 85 #[.func (.func 92) #[] c] w fun e w' => e = .returned (.func (.func 138) #[] #[.pointer (some ⟨w.heap.size, 0, none⟩)]) ∧ w' = w.alloc (.cells #[.func (.func 92) #[] c] 87) := by
  go_enter Tryz.func85, Tryz.ntmps85
  go_wp2_with fail
  go_ret
  exact ⟨rfl, rfl⟩
theorem two_is (w : World) : Calls Tryz.prog 91 #[.int .i64 2] w (IsPost 2 1 w) := by
  refine (int_any 2 w (by omega)).mono ?_
  rintro e w' ⟨z, rfl, hz, hb⟩
  have h1 : 2 < B64 ^ 1 := by rw [Nat.pow_one, B64_eq]; omega
  refine ⟨z, rfl, ⟨_, _, _, hz, ?_, by omega, h1, by omega⟩, hb⟩
  rw [ratv_drop]; unfold ratv; simp; grind
theorem half_is : (1 : Rat) / 2 = halfQ := by unfold halfQ; rfl
theorem round_call (x y : ByteArray) (a b : Rat) (gh : Nat) (x0 x1 x2 : Value) (W : World) (htab : Tab W) (hb0 : b ≠ 0) (hx : num x.data.toList = some a) (hy : num y.data.toList = some b) (hg : gh < W.heap.size) (hh : W.heap[gh]? = some (.cells #[x0, x1, x2] 69 (0, 0))) (hr : RatIs W (.agg #[x0, x1, x2]) halfQ 2) :
    Calls Tryz.prog 138 #[.string x, .string y, .pointer (some ⟨W.heap.size, 0, none⟩)] (W.alloc (.cells #[.func (.func 92) #[] #[.pointer (some ⟨gh, 0, none⟩)]] 87)) fun e w' => e = .returned (.string ⟨(txt (rndQ a b)).toArray⟩) ∧ Below W.heap.size W w' := by
  have hb := below_alloc W (.cells #[.func (.func 92) #[] #[.pointer (some ⟨gh, 0, none⟩)]] 87)
  have htab1 := htab.below hb
  have hq : ∀ (s : ByteArray) (q : Rat) (W' : World), Tab W' → num s.data.toList = some q → Calls Tryz.prog 75 #[.string s] W' (NumPost (some q) W') := fun s q W' ht h => by
    have := qread_is s W' ht
    rwa [h] at this
  refine (closure_cap x y W.heap.size gh a b (rndQ a b) 164 _ (by simp) (cell_of_heap (heap_new W _) 0) (Lib.hid (hq x a _ htab1 hx)) (fun W' hW => Lib.hid (hq y b _ (htab1.below hW) hy)) (fun W' u v hW hu hv => Lib.hid ?_) (fun W' z hW hz => Lib.hid (qtext_is z _ 164 W' (by omega) hz (htab1.below hW)))).mono ?_
  · have hbW := hb.trans (hW.mono hb.size)
    exact round_body u v a b gh x0 x1 x2 W' hb0 hu hv (Nat.lt_of_lt_of_le hg hbW.size) ((hbW.block _ hg).trans hh) (hr.below hbW)
  · rintro e w' ⟨he, hb2⟩
    exact ⟨he, hb.trans (hb2.mono hb.size)⟩
theorem round_call_bad (x y : ByteArray) (gh : Nat) (W : World) (htab : Tab W) (hx : num x.data.toList = none) :
    Calls Tryz.prog 138 #[.string x, .string y, .pointer (some ⟨W.heap.size, 0, none⟩)] (W.alloc (.cells #[.func (.func 92) #[] #[.pointer (some ⟨gh, 0, none⟩)]] 87)) fun e w' => e = .returned (.string ⟨#[]⟩) ∧ Below W.heap.size W w' := by
  have hb := below_alloc W (.cells #[.func (.func 92) #[] #[.pointer (some ⟨gh, 0, none⟩)]] 87)
  have h := qread_c x _ (htab.below hb)
  have hr : readQ x.data.toList = none := by unfold num at hx; simpa using hx
  rw [hr] at h
  exact (closure_bad1 x y _ _ (Lib.hid h)).mono fun e w' h => ⟨h.1, hb.trans (h.2.mono hb.size)⟩
theorem pround_neg (x y : ByteArray) (w : World) (hp : ∀ W, Below w.heap.size w W → Hid (Calls Tryz.prog 90 #[.string y] W fun e w' => e = .returned (.bool false) ∧ Below W.heap.size W w')) : Calls Tryz.prog 36 #[.string x, .string y] w (TxtPost [] w) := by
  unfold TxtPost
  have hp0 := hp w (Below.refl _ _)
  clear hp
  go_enter Tryz.func36, Tryz.ntmps36
  go_wp2_with fail
  refine hp0.out.mono ?_
  rintro e w1 ⟨rfl, hb1⟩
  have Hb1 := Lib.hid hb1
  clear hb1
  go_wp2_with fail
  go_ret
  exact ⟨rfl, Hb1.out⟩
end Go.Proofs.YtigicjakloiliaaGreatDoor
namespace Go.Proofs.YtigicjakloiliaaGreatDoor
open Go.RowKit Big
open Go.Lib
theorem half_quo (W : World) (u v : Value) (hu : RatIs W u 1 1) (hv : RatIs W v 2 1) : Calls Tryz.prog 89 #[u, v] W (IsPost halfQ 2 W) := by
  have h2 : (2 : Rat) ≠ 0 := by
    have := natCast_ne (b := 2) (by omega)
    exact this
  have h := quo_is u v 1 2 1 W (by omega) h2 hu hv
  rw [half_is] at h
  exact h
theorem pround_walk (x y r : ByteArray) (w : World) (hp : Hid (Calls Tryz.prog 90 #[.string y] w fun e w' => e = .returned (.bool true) ∧ Below w.heap.size w w'))
    (hcl : Hid (∀ W gh x0 x1 x2 B, B = W.heap.size → Below w.heap.size w W → gh < W.heap.size → W.heap[gh]? = some (.cells #[x0, x1, x2] 69 (0, 0)) → RatIs W (.agg #[x0, x1, x2]) halfQ 2 → Calls Tryz.prog 138 #[.string x, .string y, .pointer (some ⟨B, 0, none⟩)] (W.alloc (.cells #[.func (.func 92) #[] #[.pointer (some ⟨gh, 0, none⟩)]] 87)) fun e w' => e = .returned (.string r) ∧ Below W.heap.size W w')) :
    Calls Tryz.prog 36 #[.string x, .string y] w fun e w' => e = .returned (.string r) ∧ Below w.heap.size w w' := by
  have h1 : Hid (∀ W, Calls Tryz.prog 91 #[.int .i64 1] W (IsPost 1 1 W)) := Lib.hid one_is
  have h2 : Hid (∀ W, Calls Tryz.prog 91 #[.int .i64 2] W (IsPost 2 1 W)) := Lib.hid two_is
  have hq := Lib.hid half_quo
  go_enter Tryz.func36, Tryz.ntmps36
  go_wp2_with fail
  refine hp.out.mono ?_
  rintro e w1 ⟨rfl, hb1⟩
  have Hb1 := Lib.hid hb1
  clear hb1
  go_wp2_with fail
  refine (h1.out _).mono ?_
  rintro e w2 ⟨u, rfl, hu, hb2⟩
  have Hb2 := Lib.hid (Hb1.out.trans (hb2.mono Hb1.out.size))
  have Hu := Lib.hid hu
  obtain ⟨a0, a1, a2, a3, a4, a5, a6, rfl⟩ := hu.agg
  clear hb2 hu
  go_wp2_with fail
  refine (h2.out _).mono ?_
  rintro e w3 ⟨v, rfl, hv, hb3⟩
  have Hb3 := Lib.hid (Hb2.out.trans (hb3.mono Hb2.out.size))
  have Hq := Lib.hid (hq.out _ _ _ (Hu.out.below hb3) hv)
  obtain ⟨d0, d1, d2, d3, d4, d5, d6, rfl⟩ := hv.agg
  clear hb3 hv
  go_wp2_with fail
  refine Hq.out.mono ?_
  rintro e w4 ⟨z, rfl, hz, hb4⟩
  have Hb4 := Lib.hid (Hb3.out.trans (hb4.mono Hb3.out.size))
  obtain ⟨m0, m1, m2, m3, m4, m5, m6, rfl⟩ := hz.agg
  have hA := below_alloc w4 (.cells #[.bool m0, .slice m1 m2 m3, .slice m4 m5 m6] 69)
  have Hc := Lib.hid (hcl.out (w4.alloc (.cells #[.bool m0, .slice m1 m2 m3, .slice m4 m5 m6] 69)) w4.heap.size _ _ _ (w4.heap.size + 1) (by simp) (Hb4.out.trans (hA.mono Hb4.out.size)) (by simp) (heap_new _ _) (hz.below hA))
  have Hb5 := Lib.hid (Hb4.out.trans (hA.mono Hb4.out.size))
  clear hb4 hz hA
  go_wp2_with fail
  refine (onTexts_cap _ _).mono ?_
  rintro e w5 ⟨rfl, rfl⟩
  go_wp2_with fail
  refine Hc.out.mono ?_
  rintro e w6 ⟨rfl, hb6⟩
  have Hb6 := Lib.hid (Hb5.out.trans (hb6.mono Hb5.out.size))
  clear hb6
  go_wp2_with fail
  go_ret
  exact ⟨rfl, Hb6.out⟩
theorem sgn_pos (q : Rat) : sgnQ q = 1 ↔ 0 < q := by
  rw [sgn_same]
  unfold sgnR
  constructor
  · intro h
    split at h
    · omega
    · split at h
      · omega
      · rename_i h1 h2; grind
  · intro h
    rw [if_neg (by grind), if_neg (by grind)]
theorem pround_any (x y : ByteArray) (w : World) (htab : Tab w) : Calls Tryz.prog 36 #[.string x, .string y] w (TxtPost (rndT x.data.toList y.data.toList) w) := by
  have hp := fun W (hb : Below w.heap.size w W) => isPositive_q y W (htab.below hb)
  cases hpy : posT y.data.toList with
  | false =>
    rw [hpy] at hp
    have e : rndT x.data.toList y.data.toList = [] := by
      unfold posT at hpy
      unfold rndT
      cases hx : num x.data.toList with
      | none => rfl
      | some a =>
        cases hy : num y.data.toList with
        | none => rfl
        | some b =>
          rw [hy] at hpy
          have h0 : ¬ sgnQ b = 1 := fun h => by rw [sgn_pos] at h; simp at hpy; grind
          simp only [h0, if_false]
    rw [e]
    exact pround_neg x y w fun W hb => Lib.hid (hp W hb)
  | true =>
    rw [hpy] at hp
    have hp0 := Lib.hid (hp w (Below.refl _ _))
    unfold posT at hpy
    cases hy : num y.data.toList with
    | none => rw [hy] at hpy; cases hpy
    | some b =>
      rw [hy] at hpy
      have hb0 : 0 < b := by simpa using hpy
      unfold TxtPost rndT
      rw [hy]
      cases hx : num x.data.toList with
      | none => exact pround_walk x y _ w hp0 (Lib.hid fun W gh x0 x1 x2 B hB hb hg hh hr => by rw [hB]; exact round_call_bad x y gh W (htab.below hb) hx)
      | some a =>
        have h1 : sgnQ b = 1 := (sgn_pos b).2 hb0
        simp only [h1, if_true]
        exact pround_walk x y _ w hp0 (Lib.hid fun W gh x0 x1 x2 B hB hb hg hh hr => by rw [hB]; exact round_call x y a b gh x0 x1 x2 W (htab.below hb) (by grind) hx hy hg hh hr)
end Go.Proofs.YtigicjakloiliaaGreatDoor
namespace Go.Proofs.YtigicjakloiliaaGreatDoor
open Go.RowKit Go.Lib Big
theorem ratv_pos1 (k : Nat) : ratv false k 1 = (((k : Int)) : Rat) := by
  have h := ratv_int (k : Int)
  rw [show decide ((k : Int) < 0) = false from by simp] at h
  exact h
theorem flo_floor (q : Rat) : floQ q = ((q.floor : Int) : Rat) := by
  have hd : (0 : Int) < q.den := by have := q.den_pos; omega
  rw [Rat.floor_def]
  unfold floQ
  by_cases hs : q.num < 0
  · have e1 : decide (q.num < 0) = true := by simpa using hs
    rw [e1]
    have e2 : ratv true (floorN true q.num.natAbs q.den) 1 = -(((floorN true q.num.natAbs q.den : Nat) : Int) : Rat) := by
      have := ratv_neg false (floorN true q.num.natAbs q.den) 1
      rw [ratv_pos1] at this
      exact this
    rw [e2, ← Rat.intCast_neg]
    congr 1
    have hn : q.num = -(q.num.natAbs : Int) := by omega
    generalize q.num.natAbs = a at hn
    rw [hn]
    have hm := Nat.div_add_mod a q.den
    have hml := Nat.mod_lt a q.den_pos
    unfold floorN
    by_cases h0 : a % q.den = 0
    · have : (a % q.den == 0) = true := by simpa using h0
      rw [this]
      symm
      refine Int.ediv_eq_of_eq_mul_right (by omega) ?_
      simp
      have : (a : Int) = (q.den : Int) * ((a / q.den : Nat) : Int) := by rw [h0, Nat.add_zero] at hm; exact_mod_cast hm.symm
      rw [Int.natCast_ediv] at this
      rw [Int.mul_neg, ← this]
    · have : (a % q.den == 0) = false := by simpa using h0
      rw [this]
      symm
      simp only [Bool.true_and, Bool.not_false, if_true]
      have hm2 : (q.den : Int) * ((a / q.den : Nat) : Int) + ((a % q.den : Nat) : Int) = (a : Int) := by exact_mod_cast hm
      have hml2 : ((a % q.den : Nat) : Int) < q.den := by exact_mod_cast hml
      have h02 : (0 : Int) < ((a % q.den : Nat) : Int) := by omega
      generalize ((a % q.den : Nat) : Int) = r at hm2 hml2 h02
      rw [Int.natCast_add]
      generalize ((a / q.den : Nat) : Int) = k at hm2
      have e : -(a : Int) = (q.den - r) + q.den * (-(k + 1)) := by
        rw [← hm2, Int.mul_neg, Int.mul_add]; omega
      rw [e, Int.add_mul_ediv_left _ _ (by omega), Int.ediv_eq_zero_of_lt (by omega) (by omega)]
      simp
  · have e1 : decide (q.num < 0) = false := by simpa using hs
    rw [e1, ratv_pos1]
    congr 1
    unfold floorN
    simp
    have hn : (q.num.natAbs : Int) = q.num := by omega
    rw [hn]
theorem half_two : halfQ + halfQ = 1 := by rw [← half_is]; grind
theorem rnd_whole (a b : Rat) (hb : 0 < b) : (rndQ a b / b).den = 1 := by
  have hb0 : b ≠ 0 := by grind
  have e : rndQ a b / b = ((a / b + halfQ).floor : Int) := by
    unfold rndQ
    rw [flo_floor, Rat.div_def, Rat.mul_assoc, Rat.mul_inv_cancel b hb0, Rat.mul_one]
  rw [e, Rat.den_intCast]
theorem rnd_near (a b : Rat) (hb : 0 < b) : rndQ a b - a ≤ b * halfQ ∧ -(rndQ a b - a) ≤ b * halfQ := by
  have hb0 : b ≠ 0 := by grind
  unfold rndQ
  rw [flo_floor]
  have h1 := Rat.floor_le (a / b + halfQ)
  have h2 := Rat.lt_floor_add_one (a / b + halfQ)
  rw [Rat.intCast_add] at h2
  have ht := half_two
  generalize (((a / b + halfQ).floor : Int) : Rat) = k at h1 h2
  have e : (a / b) * b = a := by rw [Rat.div_def, Rat.mul_assoc, Rat.inv_mul_cancel b hb0, Rat.mul_one]
  generalize a / b = c at h1 h2 e
  have h3 : k * b ≤ (c + halfQ) * b := Rat.mul_le_mul_of_nonneg_right h1 (by grind)
  have h4 : (c + halfQ) * b ≤ (k + 1) * b := Rat.mul_le_mul_of_nonneg_right (by simpa using Rat.le_of_lt h2) (by grind)
  have h5 : (halfQ + halfQ) * b = b := by rw [ht, Rat.one_mul]
  subst e
  generalize halfQ = h at *
  constructor <;> grind
end Go.Proofs.YtigicjakloiliaaGreatDoor
