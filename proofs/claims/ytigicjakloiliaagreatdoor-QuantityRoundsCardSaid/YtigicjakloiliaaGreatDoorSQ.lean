/- The law QuantityRounds. -/
import Derived.Test.YtigicjakloiliaaGreatDoorSP
namespace Go.Proofs.YtigicjakloiliaaGreatDoor
open Go.RowKit Big
open Go.Lib
theorem rndT_num {l k : List UInt8} {a b c : Rat} (h : num (rndT l k) = some c) (ha : num l = some a) (hb : num k = some b) : c = rndQ a b ∧ 0 < b := by
  unfold rndT at h
  rw [ha, hb] at h
  by_cases hs : sgnQ b = 1
  · simp only [hs, if_true] at h
    have hne : txt (rndQ a b) ≠ [] := fun e => by rw [e, num_nil] at h; cases h
    rw [num_txt hne] at h
    cases h
    exact ⟨rfl, (sgn_pos b).1 hs⟩
  · simp only [hs, if_false] at h
    rw [num_nil] at h
    cases h
theorem sgn_le {q : Rat} (h : q ≤ 0) : sgnQ q ≤ 0 := by
  have h1 : ¬ sgnQ q = 1 := fun e => by have := (sgn_pos q).1 e; grind
  unfold sgnQ at h1 ⊢
  split
  · omega
  · split
    · omega
    · simp_all
theorem rounds_any (x y : ByteArray) (w : World) (htab : Tab w) : Calls Tryz.prog 6 #[.string x, .string y] w fun e w' => e = .returned (.bool true) ∧ Below w.heap.size w w' := by
  have h36 := Lib.hid (fun W (hW : Below w.heap.size w W) => pround_any x y W (htab.below hW))
  have h37 := Lib.hid (fun W (hW : Below w.heap.size w W) => pfloor_any x W (htab.below hW))
  have h38 := Lib.hid (fun W (_ : Below w.heap.size w W) => rfloor_any x W)
  have h39 := Lib.hid (fun W (_ : Below w.heap.size w W) => rround_any x y W)
  have hw := Lib.hid (fun W (hW : Below w.heap.size w W) => awake_any W (htab.below hW))
  cases hx : num x.data.toList with
  | none => exact rounds_out0 x y _ _ 0 _ _ _ _ w h36 h37 h38 h39 (Lib.hid fun W _ => get_flag x none hx W) (Lib.hid fun W _ => get_flag y _ rfl W) (Lib.hid fun W _ => get_flag _ _ rfl W) hw
  | some a =>
    cases hy : num y.data.toList with
    | none => exact rounds_out1 x y _ _ a 0 _ _ w h36 h37 h38 h39 (Lib.hid fun W _ => get_flag x (some a) hx W) (Lib.hid fun W _ => get_flag y none hy W) (Lib.hid fun W _ => get_flag _ _ rfl W) hw
    | some b =>
      obtain ⟨r, hr⟩ : ∃ r : ByteArray, r = ⟨(rndT x.data.toList y.data.toList).toArray⟩ := ⟨_, rfl⟩
      have hrl : r.data.toList = rndT x.data.toList y.data.toList := by rw [hr]
      cases hc : num r.data.toList with
      | none => exact rounds_out2 x y r _ a b 0 w (by rw [hr]; exact h36) h37 h38 (by rw [hr]; exact h39) (Lib.hid fun W _ => get_flag x (some a) hx W) (Lib.hid fun W _ => get_flag y (some b) hy W) (Lib.hid fun W _ => get_flag r none hc W) hw
      | some c =>
        have hcq : c = rndQ a b ∧ 0 < b := rndT_num (by rw [← hrl]; exact hc) hx hy
        have la := num_lt9 hx
        have lb := num_lt9 hy
        have lc := num_lt9 hc
        have hn := rnd_near a b hcq.2
        have hwh := rnd_whole a b hcq.2
        rw [← hcq.1] at hn hwh
        have hb0 := hcq.2
        have g36 : Hid (∀ W, Below w.heap.size w W → Calls Tryz.prog 36 #[.string x, .string y] W fun e w' => e = .returned (.string r) ∧ Below W.heap.size W w') := by rw [hr]; exact h36
        have g39 : Hid (∀ W, Below w.heap.size w W → Calls Tryz.prog 39 #[.string x, .string y] W fun e w' => e = .returned (.string r) ∧ Below W.heap.size W w') := by rw [hr]; exact h39
        clear hrl hr hcq
        have h41 := Lib.hid (fun W u v (hu : QAt W u a) (hv : QAt W v c) => (minus_any u v a c 5 5 W (by omega) la lc hu hv).mono fun e w' h => h.c)
        have h42 := Lib.hid (fun W u (hu : QAt W u (a - c)) => sgn_any u (a - c) W hu)
        have h45 := Lib.hid (fun W u v (hu : QAt W u c) (hv : QAt W v b) => (quot_any u v c b 5 5 W (by omega) lc lb hu hv).mono fun e w' h => h.c)
        have h44 : Hid (∀ W u, QAt W u (c / b) → Calls Tryz.prog 44 #[u] W fun e w' => e = .returned (.bool true) ∧ Below W.heap.size W w') := Lib.hid fun W u hu => by
          have h := whole_any u (c / b) 10 W (by omega) (by omega) (lc.quo lb) hu
          rw [hwh] at h
          exact h
        have h48 := Lib.hid (fun W => (frac_any 1 2 W (by omega) (by omega)).mono fun e w' (h : QPost halfQ W e w') => h.c)
        have h47 := Lib.hid (fun W u v (hu : QAt W u b) (hv : QAt W v halfQ) => (prod_any u v b halfQ 5 4 W (by omega) lb half_lt hu hv).mono fun e w' h => h.c)
        have lm := la.sub lc
        have lh := lb.mul half_lt
        by_cases hs : sgnQ (a - c) < 0
        · have h43 := Lib.hid (fun W u (hu : QAt W u (a - c)) => (opp_any u (a - c) W hu).mono fun e w' h => h.c)
          have h46 := Lib.hid (fun W u v (hu : QAt W u (-(a - c))) (hv : QAt W v (b * halfQ)) => cmp_any u v (-(a - c)) (b * halfQ) 11 9 W (by omega) lm.neg lh hu hv)
          have ht : sgnQ (-(a - c) - b * halfQ) ≤ 0 := sgn_le (by grind)
          exact rounds_in_neg x y r _ a b c _ _ w g36 h37 h38 g39 (Lib.hid fun W _ => get_flag x (some a) hx W) (Lib.hid fun W _ => get_flag y (some b) hy W) (Lib.hid fun W _ => get_flag r (some c) hc W) hw h41 h42 h45 h44 h48 h47 h43 hs ht h46
        · have h46 := Lib.hid (fun W u v (hu : QAt W u (a - c)) (hv : QAt W v (b * halfQ)) => cmp_any u v (a - c) (b * halfQ) 11 9 W (by omega) lm lh hu hv)
          have ht : sgnQ ((a - c) - b * halfQ) ≤ 0 := sgn_le (by grind)
          exact rounds_in_pos x y r _ a b c _ _ w g36 h37 h38 g39 (Lib.hid fun W _ => get_flag x (some a) hx W) (Lib.hid fun W _ => get_flag y (some b) hy W) (Lib.hid fun W _ => get_flag r (some c) hc W) hw h41 h42 h45 h44 h48 h47 hs ht h46
end Go.Proofs.YtigicjakloiliaaGreatDoor
