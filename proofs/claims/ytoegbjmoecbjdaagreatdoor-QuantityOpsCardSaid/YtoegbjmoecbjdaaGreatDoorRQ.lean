/- The document's Text and Put. -/
import Derived.Test.YtoegbjmoecbjdaaGreatDoorRP
set_option maxHeartbeats 3200000
set_option maxRecDepth 100000
namespace Go.Proofs.YtoegbjmoecbjdaaGreatDoor
open Go.RowKit Big
open Go.Lib
structure Bx (B : Nat) (c : Array Value) (w0 W : World) : Prop where
  size : B + 1 ≤ W.heap.size
  below : Below w0.heap.size w0 W
  x : W.heap[B]? = some (.cells c 38 (0, 0))
theorem Bx.start (w : World) (c : Array Value) : Bx w.heap.size c w (w.alloc (.cells c 38)) := ⟨by simp, below_alloc9 _ _, heap_new _ _⟩
theorem Bx.next {B : Nat} {c : Array Value} {w0 W W' : World} (h : Bx B c w0 W) (hb : Below W.heap.size W W') : Bx B c w0 W' := ⟨Nat.le_trans h.size hb.size, h.below.trans (hb.mono h.below.size), (hb.block _ (by have := h.size; omega)).trans h.x⟩
theorem Bx.drew {B : Nat} {c : Array Value} {w0 W : World} (h : Bx B c w0 W) : Bx B c w0 W.drew := ⟨h.size, h.below.drew, h.x⟩
theorem Bx.all {B : Nat} {a b c : Value} {w0 W : World} (h : Bx B #[a, b, c] w0 W) : Bx B #[a, b, c] w0 W ∧ W.cell? ⟨B, 0, none⟩ = some a ∧ W.cell? ⟨B, 1, none⟩ = some b ∧ W.cell? ⟨B, 2, none⟩ = some c :=
  ⟨h, ceh h.x 0, ceh h.x 1, ceh h.x 2⟩
theorem text_long1 (u1 v1 : Value) (s : Bool) (q : Rat) (sn sd _y : ByteArray) (w : World) (_ok : Bool) (hX : Hid (∀ W, Below w.heap.size w W → Calls Tryz.prog 120 #[u1] W fun e w' => e = .returned (.string sn) ∧ Below W.heap.size W w')) (hden : Hid (∀ W, Below w.heap.size w W → Calls Tryz.prog 89 #[.agg #[.bool s, u1, v1]] W (Some9 q.den W)))
    (hD : Hid (∀ W v, Nat9 W v q.den → Calls Tryz.prog 120 #[v] W fun e w' => e = .returned (.string sd) ∧ Below W.heap.size W w')) (h1 : (40 : Int) < sn.size) :
    Calls Tryz.prog 66 #[.agg #[.bool s, u1, v1]] w fun e w' => e = .returned (.tuple #[.string ⟨#[]⟩, .bool false]) ∧ Below w.heap.size w w' := by
  have hbx := Bx.start w #[.bool s, u1, v1]
  have Hbx := hiD hbx
  obtain ⟨-, c0, c1, c2⟩ := hbx.all
  clear hbx
  go_enter Tryz.func66, Tryz.ntmps66
  go_wp2_with fail
  go_region_held3 (fun w' => Bx w.heap.size #[.bool s, u1, v1] w w' ∧ w'.cell? ⟨w.heap.size, 0, none⟩ = some (.bool s) ∧ w'.cell? ⟨w.heap.size, 1, none⟩ = some u1 ∧ w'.cell? ⟨w.heap.size, 2, none⟩ = some v1)
    (first | exact Bx.all (Bx.drew Hbx.out) | exact Bx.all Hbx.out | (go_split_ands; exact Bx.all (Bx.next (by assumption) hb1)) | (go_split_ands; exact Bx.all (Bx.next (by assumption) hb2)) | (go_split_ands; exact Bx.all (Bx.next (by assumption) hb3)) | go_keep)
    (first | (go_at_call_of 120 u1; go_split_ands; refine (hX.out _ (Bx.below (by assumption))).mono ?_; rintro e w1 ⟨rfl, hb1⟩) | (go_at_call 89; go_split_ands; refine (hden.out _ (Bx.below (by assumption))).mono ?_; rintro e w2 ⟨p2, n2, k2, rfl, hv2, hb2⟩) | (go_at_call 120; go_split_ands; refine (hD.out _ _ hv2).mono ?_; rintro e w3 ⟨rfl, hb3⟩; have htw := Bx.next (by assumption) hb3))
  obtain ⟨-, c0, c1, c2⟩ := htw.all
  have Hb3 := hiD htw.below
  go_wp2_with fail
  go_ret2
  exact ⟨rfl, Hb3.out⟩
theorem text_long2 (u1 v1 : Value) (s : Bool) (q : Rat) (sn sd _y : ByteArray) (w : World) (_ok : Bool) (hX : Hid (∀ W, Below w.heap.size w W → Calls Tryz.prog 120 #[u1] W fun e w' => e = .returned (.string sn) ∧ Below W.heap.size W w')) (hden : Hid (∀ W, Below w.heap.size w W → Calls Tryz.prog 89 #[.agg #[.bool s, u1, v1]] W (Some9 q.den W)))
    (hD : Hid (∀ W v, Nat9 W v q.den → Calls Tryz.prog 120 #[v] W fun e w' => e = .returned (.string sd) ∧ Below W.heap.size W w')) (h1 : (sn.size : Int) ≤ 40) (h2 : (40 : Int) < sd.size) :
    Calls Tryz.prog 66 #[.agg #[.bool s, u1, v1]] w fun e w' => e = .returned (.tuple #[.string ⟨#[]⟩, .bool false]) ∧ Below w.heap.size w w' := by
  have hbx := Bx.start w #[.bool s, u1, v1]
  have Hbx := hiD hbx
  obtain ⟨-, c0, c1, c2⟩ := hbx.all
  clear hbx
  go_enter Tryz.func66, Tryz.ntmps66
  go_wp2_with fail
  go_region_held3 (fun w' => Bx w.heap.size #[.bool s, u1, v1] w w' ∧ w'.cell? ⟨w.heap.size, 0, none⟩ = some (.bool s) ∧ w'.cell? ⟨w.heap.size, 1, none⟩ = some u1 ∧ w'.cell? ⟨w.heap.size, 2, none⟩ = some v1)
    (first | exact Bx.all (Bx.drew Hbx.out) | exact Bx.all Hbx.out | (go_split_ands; exact Bx.all (Bx.next (by assumption) hb1)) | (go_split_ands; exact Bx.all (Bx.next (by assumption) hb2)) | (go_split_ands; exact Bx.all (Bx.next (by assumption) hb3)) | go_keep)
    (first | (go_at_call_of 120 u1; go_split_ands; refine (hX.out _ (Bx.below (by assumption))).mono ?_; rintro e w1 ⟨rfl, hb1⟩) | (go_at_call 89; go_split_ands; refine (hden.out _ (Bx.below (by assumption))).mono ?_; rintro e w2 ⟨p2, n2, k2, rfl, hv2, hb2⟩) | (go_at_call 120; go_split_ands; refine (hD.out _ _ hv2).mono ?_; rintro e w3 ⟨rfl, hb3⟩; have htw := Bx.next (by assumption) hb3))
  obtain ⟨-, c0, c1, c2⟩ := htw.all
  have Hb3 := hiD htw.below
  go_wp2_with fail
  go_ret2
  exact ⟨rfl, Hb3.out⟩
theorem text_true_true (u1 v1 : Value) (s : Bool) (q : Rat) (sn sd _y : ByteArray) (w : World) (_ok : Bool) (hX : Hid (∀ W, Below w.heap.size w W → Calls Tryz.prog 120 #[u1] W fun e w' => e = .returned (.string sn) ∧ Below W.heap.size W w')) (hden : Hid (∀ W, Below w.heap.size w W → Calls Tryz.prog 89 #[.agg #[.bool s, u1, v1]] W (Some9 q.den W)))
    (hD : Hid (∀ W v, Nat9 W v q.den → Calls Tryz.prog 120 #[v] W fun e w' => e = .returned (.string sd) ∧ Below W.heap.size W w')) (h1 : (sn.size : Int) ≤ 40) (h2 : (sd.size : Int) ≤ 40) (h3 : (sd.toList == [49]) = true) (hs : s = true) :
    Calls Tryz.prog 66 #[.agg #[.bool s, u1, v1]] w fun e w' => e = .returned (.tuple #[.string (⟨#[45]⟩ ++ sn), .bool true]) ∧ Below w.heap.size w w' := by
  subst hs
  have hbx := Bx.start w #[.bool true, u1, v1]
  have Hbx := hiD hbx
  obtain ⟨-, c0, c1, c2⟩ := hbx.all
  clear hbx
  go_enter Tryz.func66, Tryz.ntmps66
  go_wp2_with fail
  go_region_held3 (fun w' => Bx w.heap.size #[.bool true, u1, v1] w w' ∧ w'.cell? ⟨w.heap.size, 0, none⟩ = some (.bool true) ∧ w'.cell? ⟨w.heap.size, 1, none⟩ = some u1 ∧ w'.cell? ⟨w.heap.size, 2, none⟩ = some v1)
    (first | exact Bx.all (Bx.drew Hbx.out) | exact Bx.all Hbx.out | (go_split_ands; exact Bx.all (Bx.next (by assumption) hb1)) | (go_split_ands; exact Bx.all (Bx.next (by assumption) hb2)) | (go_split_ands; exact Bx.all (Bx.next (by assumption) hb3)) | go_keep)
    (first | (go_at_call_of 120 u1; go_split_ands; refine (hX.out _ (Bx.below (by assumption))).mono ?_; rintro e w1 ⟨rfl, hb1⟩) | (go_at_call 89; go_split_ands; refine (hden.out _ (Bx.below (by assumption))).mono ?_; rintro e w2 ⟨p2, n2, k2, rfl, hv2, hb2⟩) | (go_at_call 120; go_split_ands; refine (hD.out _ _ hv2).mono ?_; rintro e w3 ⟨rfl, hb3⟩; have htw := Bx.next (by assumption) hb3))
  obtain ⟨-, c0, c1, c2⟩ := htw.all
  have Hb3 := hiD htw.below
  go_wp2_with fail
  go_ret2
  exact ⟨rfl, Hb3.out⟩
theorem text_true_false (u1 v1 : Value) (s : Bool) (q : Rat) (sn sd _y : ByteArray) (w : World) (_ok : Bool) (hX : Hid (∀ W, Below w.heap.size w W → Calls Tryz.prog 120 #[u1] W fun e w' => e = .returned (.string sn) ∧ Below W.heap.size W w')) (hden : Hid (∀ W, Below w.heap.size w W → Calls Tryz.prog 89 #[.agg #[.bool s, u1, v1]] W (Some9 q.den W)))
    (hD : Hid (∀ W v, Nat9 W v q.den → Calls Tryz.prog 120 #[v] W fun e w' => e = .returned (.string sd) ∧ Below W.heap.size W w')) (h1 : (sn.size : Int) ≤ 40) (h2 : (sd.size : Int) ≤ 40) (h3 : (sd.toList == [49]) = false) (hs : s = true) :
    Calls Tryz.prog 66 #[.agg #[.bool s, u1, v1]] w fun e w' => e = .returned (.tuple #[.string ((⟨#[45]⟩ ++ sn) ++ ⟨#[47]⟩ ++ sd), .bool true]) ∧ Below w.heap.size w w' := by
  subst hs
  have hbx := Bx.start w #[.bool true, u1, v1]
  have Hbx := hiD hbx
  obtain ⟨-, c0, c1, c2⟩ := hbx.all
  clear hbx
  go_enter Tryz.func66, Tryz.ntmps66
  go_wp2_with fail
  go_region_held3 (fun w' => Bx w.heap.size #[.bool true, u1, v1] w w' ∧ w'.cell? ⟨w.heap.size, 0, none⟩ = some (.bool true) ∧ w'.cell? ⟨w.heap.size, 1, none⟩ = some u1 ∧ w'.cell? ⟨w.heap.size, 2, none⟩ = some v1)
    (first | exact Bx.all (Bx.drew Hbx.out) | exact Bx.all Hbx.out | (go_split_ands; exact Bx.all (Bx.next (by assumption) hb1)) | (go_split_ands; exact Bx.all (Bx.next (by assumption) hb2)) | (go_split_ands; exact Bx.all (Bx.next (by assumption) hb3)) | go_keep)
    (first | (go_at_call_of 120 u1; go_split_ands; refine (hX.out _ (Bx.below (by assumption))).mono ?_; rintro e w1 ⟨rfl, hb1⟩) | (go_at_call 89; go_split_ands; refine (hden.out _ (Bx.below (by assumption))).mono ?_; rintro e w2 ⟨p2, n2, k2, rfl, hv2, hb2⟩) | (go_at_call 120; go_split_ands; refine (hD.out _ _ hv2).mono ?_; rintro e w3 ⟨rfl, hb3⟩; have htw := Bx.next (by assumption) hb3))
  obtain ⟨-, c0, c1, c2⟩ := htw.all
  have Hb3 := hiD htw.below
  go_wp2_with fail
  go_ret2
  exact ⟨rfl, Hb3.out⟩
theorem text_false_true (u1 v1 : Value) (s : Bool) (q : Rat) (sn sd _y : ByteArray) (w : World) (_ok : Bool) (hX : Hid (∀ W, Below w.heap.size w W → Calls Tryz.prog 120 #[u1] W fun e w' => e = .returned (.string sn) ∧ Below W.heap.size W w')) (hden : Hid (∀ W, Below w.heap.size w W → Calls Tryz.prog 89 #[.agg #[.bool s, u1, v1]] W (Some9 q.den W)))
    (hD : Hid (∀ W v, Nat9 W v q.den → Calls Tryz.prog 120 #[v] W fun e w' => e = .returned (.string sd) ∧ Below W.heap.size W w')) (h1 : (sn.size : Int) ≤ 40) (h2 : (sd.size : Int) ≤ 40) (h3 : (sd.toList == [49]) = true) (hs : s = false) :
    Calls Tryz.prog 66 #[.agg #[.bool s, u1, v1]] w fun e w' => e = .returned (.tuple #[.string sn, .bool true]) ∧ Below w.heap.size w w' := by
  subst hs
  have hbx := Bx.start w #[.bool false, u1, v1]
  have Hbx := hiD hbx
  obtain ⟨-, c0, c1, c2⟩ := hbx.all
  clear hbx
  go_enter Tryz.func66, Tryz.ntmps66
  go_wp2_with fail
  go_region_held3 (fun w' => Bx w.heap.size #[.bool false, u1, v1] w w' ∧ w'.cell? ⟨w.heap.size, 0, none⟩ = some (.bool false) ∧ w'.cell? ⟨w.heap.size, 1, none⟩ = some u1 ∧ w'.cell? ⟨w.heap.size, 2, none⟩ = some v1)
    (first | exact Bx.all (Bx.drew Hbx.out) | exact Bx.all Hbx.out | (go_split_ands; exact Bx.all (Bx.next (by assumption) hb1)) | (go_split_ands; exact Bx.all (Bx.next (by assumption) hb2)) | (go_split_ands; exact Bx.all (Bx.next (by assumption) hb3)) | go_keep)
    (first | (go_at_call_of 120 u1; go_split_ands; refine (hX.out _ (Bx.below (by assumption))).mono ?_; rintro e w1 ⟨rfl, hb1⟩) | (go_at_call 89; go_split_ands; refine (hden.out _ (Bx.below (by assumption))).mono ?_; rintro e w2 ⟨p2, n2, k2, rfl, hv2, hb2⟩) | (go_at_call 120; go_split_ands; refine (hD.out _ _ hv2).mono ?_; rintro e w3 ⟨rfl, hb3⟩; have htw := Bx.next (by assumption) hb3))
  obtain ⟨-, c0, c1, c2⟩ := htw.all
  have Hb3 := hiD htw.below
  go_wp2_with fail
  go_ret2
  exact ⟨rfl, Hb3.out⟩
theorem text_false_false (u1 v1 : Value) (s : Bool) (q : Rat) (sn sd _y : ByteArray) (w : World) (_ok : Bool) (hX : Hid (∀ W, Below w.heap.size w W → Calls Tryz.prog 120 #[u1] W fun e w' => e = .returned (.string sn) ∧ Below W.heap.size W w')) (hden : Hid (∀ W, Below w.heap.size w W → Calls Tryz.prog 89 #[.agg #[.bool s, u1, v1]] W (Some9 q.den W)))
    (hD : Hid (∀ W v, Nat9 W v q.den → Calls Tryz.prog 120 #[v] W fun e w' => e = .returned (.string sd) ∧ Below W.heap.size W w')) (h1 : (sn.size : Int) ≤ 40) (h2 : (sd.size : Int) ≤ 40) (h3 : (sd.toList == [49]) = false) (hs : s = false) :
    Calls Tryz.prog 66 #[.agg #[.bool s, u1, v1]] w fun e w' => e = .returned (.tuple #[.string (sn ++ ⟨#[47]⟩ ++ sd), .bool true]) ∧ Below w.heap.size w w' := by
  subst hs
  have hbx := Bx.start w #[.bool false, u1, v1]
  have Hbx := hiD hbx
  obtain ⟨-, c0, c1, c2⟩ := hbx.all
  clear hbx
  go_enter Tryz.func66, Tryz.ntmps66
  go_wp2_with fail
  go_region_held3 (fun w' => Bx w.heap.size #[.bool false, u1, v1] w w' ∧ w'.cell? ⟨w.heap.size, 0, none⟩ = some (.bool false) ∧ w'.cell? ⟨w.heap.size, 1, none⟩ = some u1 ∧ w'.cell? ⟨w.heap.size, 2, none⟩ = some v1)
    (first | exact Bx.all (Bx.drew Hbx.out) | exact Bx.all Hbx.out | (go_split_ands; exact Bx.all (Bx.next (by assumption) hb1)) | (go_split_ands; exact Bx.all (Bx.next (by assumption) hb2)) | (go_split_ands; exact Bx.all (Bx.next (by assumption) hb3)) | go_keep)
    (first | (go_at_call_of 120 u1; go_split_ands; refine (hX.out _ (Bx.below (by assumption))).mono ?_; rintro e w1 ⟨rfl, hb1⟩) | (go_at_call 89; go_split_ands; refine (hden.out _ (Bx.below (by assumption))).mono ?_; rintro e w2 ⟨p2, n2, k2, rfl, hv2, hb2⟩) | (go_at_call 120; go_split_ands; refine (hD.out _ _ hv2).mono ?_; rintro e w3 ⟨rfl, hb3⟩; have htw := Bx.next (by assumption) hb3))
  obtain ⟨-, c0, c1, c2⟩ := htw.all
  have Hb3 := hiD htw.below
  go_wp2_with fail
  go_ret2
  exact ⟨rfl, Hb3.out⟩
end Go.Proofs.YtoegbjmoecbjdaaGreatDoor
