/- The program's step: the following index, in its place. -/
import Derived.Test.YtigidchicloleaaGreatDoorGG
set_option maxHeartbeats 2000000
set_option maxRecDepth 100000
namespace Go.Proofs.YtigidchicloleaaGreatDoor.Arr
open Go.RowKit
open Go.Lib
theorem cell_row {W : World} {g k : Nat} {l : List Nat} (h : W.heap[g]? = some (.cells (ixC l) 3 (0, 0))) (hk : k < l.length) : W.cell? ⟨g, k, none⟩ = some (.int .i64 ((l.getD k 0 : Nat) : Int)) := by
  have := ixC_at hk
  simp [World.cell?, h, this]
theorem free_row {W : World} {g k : Nat} {l : List Nat} (h : W.heap[g]? = some (.cells (ixC l) 3 (0, 0))) : W.frozen? ⟨g, k, none⟩ = false := by simp [World.frozen?, h]
theorem getD_mid {A : List Nat} {x : Nat} {B : List Nat} {k : Nat} (hk : A.length = k) : (A ++ x :: B).getD k 0 = x := by
  rw [List.getD_eq_getElem?_getD, List.getElem?_append_right (by omega), hk, Nat.sub_self]
  rfl
def zn (n : Nat) : List Nat := List.replicate n 0
theorem zeros_drop (s : List Nat) {n k : Nat} (hs : s.length = n) : zeros (s.drop k) = zn (n - k) := by
  unfold zeros zn
  rw [List.map_const', List.length_drop, hs]
theorem take_succ' {l : List Nat} {k : Nat} (h : k < l.length) : l.take (k + 1) = l.take k ++ [l.getD k 0] := by
  rw [List.take_succ_eq_append_getElem h, List.getD_eq_getElem?_getD, List.getElem?_eq_getElem h]; rfl
def StepPost (g : Nat) (s l : List Nat) (w : World) (e : Ending) (w' : World) : Prop := (∃ v, e = .returned v) ∧ ∃ r, r.length = s.length ∧ (∀ l', incr s l = some l' → r = l') ∧ w'.heap[g]? = some (.cells (ixC r) 3 (0, 0)) ∧ w.grownBy w' (some g)
theorem gb_set (W : World) (g k : Nat) (v : Value) : W.grownBy (W.setCell ⟨g, k, none⟩ v) (some g) := ⟨rfl, rfl, rfl, by simp, fun i _ hi => Below.heap_setCell _ _ _ _ (fun e => hi (by rw [e]))⟩
theorem gb_drew (W : World) (g : Nat) (k : Nat) : W.grownBy (W.drewN k) (some g) := ⟨rfl, rfl, rfl, Nat.le_refl _, fun _ _ _ => rfl⟩
theorem step_any (p : Option Addr) (c d n g : Nat) (s l : List Nat) (w : World) (hn : n ≤ 4) (hs : Hid (s.length = n)) (hl : Hid (l.length = n)) (hsb : Hid (∀ x ∈ s, x ≤ 1024)) (hll : Hid (IsIx s l)) (hp : RdN w p s) (hpg : ∀ b off, p = some ⟨b, off, none⟩ → 0 < n → b ≠ g) (hg : w.heap[g]? = some (.cells (ixC l) 3 (0, 0))) :
    Calls Tryz.prog 93 #[.slice p n c, .slice (some ⟨g, 0, none⟩) n d] w (StepPost g s l w) := by
  have HP := Lib.hid hp
  have HG := Lib.hid hg
  have HPG := Lib.hid hpg
  have hni : (n : Int) ≤ 4 := by omega
  clear hp hg hpg
  go_enter Tryz.func93, Tryz.ntmps93
  go_wp2_with fail
  go_loopw [4] (fun kv wr => ∃ (j : Nat) (t : Int), j ≤ n ∧ kv = .int .i64 t ∧ t = (j : Int) - 1 ∧ Hid (incr (s.drop j) (l.drop j) = none) ∧ Hid (wr.heap[g]? = some (.cells (ixC (l.take j ++ zn (n - j))) 3 (0, 0))) ∧ Hid (w.grownBy wr (some g))) (fun kv _ => (intOf kv + 1).toNat)
  case atStart => exact ⟨n, _, Nat.le_refl _, rfl, rfl, Lib.hid (by rw [List.drop_of_length_le (by rw [hs.out]; omega)]; simp [incr]), Lib.hid (by rw [Nat.sub_self, List.take_of_length_le (by rw [hl.out]; omega)]; simpa [zn] using HG.out), Lib.hid ⟨rfl, rfl, rfl, Nat.le_refl _, fun _ _ _ => rfl⟩⟩
  case round =>
    obtain ⟨j, t, hj, rfl, ht, HIN, HR, HB⟩ := hrel
    cases j with
    | zero =>
      obtain rfl : t = -1 := by omega
      have hfin : Hid (StepPost g s l w (.returned (.tuple #[])) wr) := Lib.hid ⟨⟨_, rfl⟩, zn n, by rw [hs.out]; simp [zn], (fun l' h => by
        have := HIN.out
        rw [List.drop_zero, List.drop_zero] at this
        rw [this] at h
        cases h), by simpa using HR.out, HB.out⟩
      clear ht
      go_wp2_with fail
      go_end0
      exact hfin.out
    | succ k =>
      obtain rfl : t = (k : Int) := by omega
      clear ht
      have hkn : (k : Int) < (n : Int) := by omega
      obtain ⟨b1, o1, x, rfl, hb1, hc1, HX⟩ := HP.out.at (k := k) (by rw [hs.out]; omega)
      have hne := HPG.out b1 o1 rfl (by omega)
      obtain ⟨y, HY⟩ : ∃ y, Hid (y = l.getD k 0) := ⟨_, rfl⟩
      have hxy : y < x := by rw [HY.out, HX.out]; exact hll.out.2 k (by rw [hs.out]; omega)
      have hx1024 : x ≤ 1024 := by
        rw [HX.out, List.getD_eq_getElem?_getD, List.getElem?_eq_getElem (by rw [hs.out]; omega)]
        exact hsb.out _ (List.getElem_mem _)
      have ixi : (x : Int) ≤ 1024 := by omega
      have iyi : (y : Int) ≤ 1024 := by omega
      obtain ⟨y1, HY1⟩ : ∃ y1, Hid (y1 = y + 1) := ⟨_, rfl⟩
      have hy1 : (y : Int) + 1 = (y1 : Int) := by rw [HY1.out]; omega
      have hkl : k < l.length := by rw [hl.out]; omega
      have htk : (l.take k).length = k := by rw [List.length_take]; omega
      have HR0 : Hid (wr.heap[g]? = some (.cells (ixC (l.take k ++ y :: zn (n - (k + 1)))) 3 (0, 0))) := Lib.hid (by
        have h := HR.out
        rw [take_succ' hkl, ← HY.out, List.append_assoc] at h
        exact h)
      have hcg : wr.cell? ⟨g, k, none⟩ = some (.int .i64 (y : Int)) := by
        have h := cell_row HR0.out (k := k) (by simp; omega)
        rw [getD_mid htk] at h
        exact h
      have hfg : wr.frozen? ⟨g, k, none⟩ = false := free_row HR0.out
      obtain ⟨W1, HW1⟩ : ∃ W1, Hid (wr.setCell ⟨g, k, none⟩ (.int .i64 (y1 : Int)) = W1) := ⟨_, Lib.hid rfl⟩
      have HR1 : Hid (W1.heap[g]? = some (.cells (ixC (l.take k ++ y1 :: zn (n - (k + 1)))) 3 (0, 0))) := Lib.hid (by
        rw [← HW1.out, ← ixC_set (l.take k) y y1 (zn (n - (k + 1))) htk]
        exact heap_set wr g k _ _ _ HR0.out)
      have HB1 : Hid (w.grownBy W1 (some g)) := Lib.hid (HB.out.trans (by rw [← HW1.out]; exact gb_set _ _ _ _))
      have d1 : W1.cell? ⟨g, k, none⟩ = some (.int .i64 (y1 : Int)) := by
        have h := cell_row HR1.out (k := k) (by simp; omega)
        rw [getD_mid htk] at h
        exact h
      have d2 : W1.cell? ⟨b1, o1 + k, none⟩ = some (.int .i64 (x : Int)) := by
        have hh := HB1.out.block b1 hb1 (by intro e; cases e; exact hne rfl)
        rw [World.cell?_of_block (a := ⟨b1, o1 + k, none⟩) hh]; exact hc1
      have HAT := Lib.hid (incr_at (s := s) (l := l) (k := k) (by rw [hs.out]; omega) (by rw [hl.out, hs.out]) HIN.out)
      go_wp2_with fail
      rw [HW1.out]
      by_cases hlt : y1 < x
      · have ilt : (y1 : Int) < (x : Int) := by omega
        have dlt : decide (y1 < x) = true := decide_eq_true hlt
        have hfin : Hid (∀ q, StepPost g s l w (.returned (.tuple #[])) (W1.drewN q)) := Lib.hid (fun q => ⟨⟨_, rfl⟩, l.take k ++ y1 :: zn (n - (k + 1)), by rw [List.length_append, htk, List.length_cons, hs.out]; simp [zn]; omega, fun l' h => by
          have e := HAT.out
          rw [← HY.out, ← HX.out, if_pos (by rw [← HY1.out]; exact hlt), zeros_drop s hs.out, ← HY1.out] at e
          have := incr_drop k s l _ (by rw [hl.out, hs.out]) e
          rw [this] at h
          exact Option.some.inj h, HR1.out, HB1.out.trans (gb_drew W1 g q)⟩)
        go_quiet (fail)
        go_wp2_with fail
        go_end0
        exact hfin.out _
      · have ilt : ¬ (y1 : Int) < (x : Int) := by omega
        have dlt : decide (y1 < x) = false := decide_eq_false hlt
        have hf1 : W1.frozen? ⟨g, k, none⟩ = false := free_row HR1.out
        have HIN2 : Hid (incr (s.drop k) (l.drop k) = none) := Lib.hid (by rw [HAT.out, if_neg (by rw [← HY.out, ← HX.out, ← HY1.out]; exact hlt)])
        have HEND : Hid (∀ q, ((W1.drewN q).setCell ⟨g, k, none⟩ (.int .i64 0)).heap[g]? = some (.cells (ixC (l.take k ++ zn (n - k))) 3 (0, 0)) ∧ w.grownBy ((W1.drewN q).setCell ⟨g, k, none⟩ (.int .i64 0)) (some g)) := Lib.hid (fun q => by
          constructor
          · have h := heap_set (W1.drewN q) g k (.int .i64 ((0 : Nat) : Int)) _ _ HR1.out
            rw [ixC_set (l.take k) y1 0 (zn (n - (k + 1))) htk] at h
            rw [show zn (n - k) = 0 :: zn (n - (k + 1)) by rw [show n - k = (n - (k + 1)) + 1 by omega]; rfl]
            exact h
          · exact (HB1.out.trans (gb_drew W1 g q)).trans (gb_set _ _ _ _))
        go_quiet (fail)
        go_wp2_with fail
        go_roundw
        case rel => exact ⟨k, _, by omega, rfl, by omega, HIN2, Lib.hid (HEND.out _).1, Lib.hid (HEND.out _).2⟩
        case measure => simp [intOf]
end Go.Proofs.YtigidchicloleaaGreatDoor.Arr
