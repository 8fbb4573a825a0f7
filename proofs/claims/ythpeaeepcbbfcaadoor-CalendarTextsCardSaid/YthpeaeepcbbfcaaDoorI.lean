/- The search for a year. -/
import Derived.Test.YthpeaeepcbbfcaaDoorH
namespace Go.Proofs.YthpeaeepcbbfcaaDoor
open Go.RowKit

/-- The captured rules and day number. -/
structure Cap (B G : Nat) (m0 m1 m2 m3 m4 m5 m6 m7 m8 m9 m10 m11 : Int) (f : FuncId) (n : Int) (w0 W : World) : Prop where
  x0 : B < w0.heap.size
  y0 : G < w0.heap.size
  below : Below w0.heap.size w0 W
  x : W.heap[B]? = some (.cells #[.int .i64 m0, .int .i64 m1, .int .i64 m2, .int .i64 m3, .int .i64 m4, .int .i64 m5, .int .i64 m6, .int .i64 m7, .int .i64 m8, .int .i64 m9, .int .i64 m10, .int .i64 m11, .func (.func f) #[] #[]] 34 (0, 0))
  y : W.heap[G]? = some (.cells #[.int .i64 n] 3 (0, 0))
variable {B G : Nat} {m0 m1 m2 m3 m4 m5 m6 m7 m8 m9 m10 m11 : Int} {f : FuncId} {n : Int} {w0 W W' : World}
theorem Cap.next (h : Cap B G m0 m1 m2 m3 m4 m5 m6 m7 m8 m9 m10 m11 f n w0 W) (hb : Below W.heap.size W W') : Cap B G m0 m1 m2 m3 m4 m5 m6 m7 m8 m9 m10 m11 f n w0 W' := by
  have hs := h.below.size
  exact ⟨h.x0, h.y0, h.below.trans (hb.mono h.below.size), (hb.block _ (Nat.lt_of_lt_of_le h.x0 hs)).trans h.x, (hb.block _ (Nat.lt_of_lt_of_le h.y0 hs)).trans h.y⟩
theorem Cap.again (h : Cap B G m0 m1 m2 m3 m4 m5 m6 m7 m8 m9 m10 m11 f n w0 W) : Cap B G m0 m1 m2 m3 m4 m5 m6 m7 m8 m9 m10 m11 f n W W :=
  ⟨Nat.lt_of_lt_of_le h.x0 h.below.size, Nat.lt_of_lt_of_le h.y0 h.below.size, Below.refl _ _, h.x, h.y⟩
theorem Cap.drew (h : Cap B G m0 m1 m2 m3 m4 m5 m6 m7 m8 m9 m10 m11 f n w0 W) : Cap B G m0 m1 m2 m3 m4 m5 m6 m7 m8 m9 m10 m11 f n w0 W.drew := ⟨h.x0, h.y0, h.below.drew, h.x, h.y⟩
theorem Cap.all (h : Cap B G m0 m1 m2 m3 m4 m5 m6 m7 m8 m9 m10 m11 f n w0 W) : Cap B G m0 m1 m2 m3 m4 m5 m6 m7 m8 m9 m10 m11 f n w0 W ∧ W.cell? ⟨B, 0, none⟩ = some (.int .i64 m0) ∧ W.cell? ⟨B, 1, none⟩ = some (.int .i64 m1) ∧ W.cell? ⟨B, 2, none⟩ = some (.int .i64 m2) ∧ W.cell? ⟨B, 3, none⟩ = some (.int .i64 m3) ∧ W.cell? ⟨B, 4, none⟩ = some (.int .i64 m4) ∧ W.cell? ⟨B, 5, none⟩ = some (.int .i64 m5) ∧ W.cell? ⟨B, 6, none⟩ = some (.int .i64 m6) ∧ W.cell? ⟨B, 7, none⟩ = some (.int .i64 m7) ∧ W.cell? ⟨B, 8, none⟩ = some (.int .i64 m8) ∧ W.cell? ⟨B, 9, none⟩ = some (.int .i64 m9) ∧ W.cell? ⟨B, 10, none⟩ = some (.int .i64 m10) ∧ W.cell? ⟨B, 11, none⟩ = some (.int .i64 m11) ∧ W.cell? ⟨B, 12, none⟩ = some (.func (.func f) #[] #[]) ∧ W.cell? ⟨G, 0, none⟩ = some (.int .i64 n) :=
  ⟨h, cell_of_heap h.x 0, cell_of_heap h.x 1, cell_of_heap h.x 2, cell_of_heap h.x 3, cell_of_heap h.x 4, cell_of_heap h.x 5, cell_of_heap h.x 6, cell_of_heap h.x 7, cell_of_heap h.x 8, cell_of_heap h.x 9, cell_of_heap h.x 10, cell_of_heap h.x 11, cell_of_heap h.x 12, cell_of_heap h.y 0⟩

def late (c n i : Int) : Bool := decide (n < start c (i - 9999))

set_option maxRecDepth 100000 in
set_option maxHeartbeats 1600000 in
theorem later_any (B G : Nat) (m0 m1 m2 m3 m4 m5 m6 m7 m8 m9 m10 m11 : Int) (f : FuncId) (c n i : Int) (w : World) (hr : IsRules c (.agg #[.int .i64 m0, .int .i64 m1, .int .i64 m2, .int .i64 m3, .int .i64 m4, .int .i64 m5, .int .i64 m6, .int .i64 m7, .int .i64 m8, .int .i64 m9, .int .i64 m10, .int .i64 m11, .func (.func f) #[] #[]])) (h0 : 0 ≤ i) (h1 : i ≤ 19998) (hC : Hid (Cap B G m0 m1 m2 m3 m4 m5 m6 m7 m8 m9 m10 m11 f n w w)) :
    Calls Tryd.prog 48 #[.int .i64 i, .pointer (some ⟨B, 0, none⟩), .pointer (some ⟨G, 0, none⟩)] w fun e w' => e = .returned (.bool (late c n i)) ∧ Below w.heap.size w w' := by
  have hst := Lib.hid hr.start
  clear hr
  have s1 : IntKind.i64.wrap (i - 9999) = i - 9999 := IntWalk.i64_in _ (by omega)
  have b0 : -10000 ≤ i - 9999 := by omega
  have b1 : i - 9999 ≤ 10000 := by omega
  go_enter Tryd.func48, Tryd.ntmps48
  go_wp2_with fail
  go_region_held3 (fun w' => Cap B G m0 m1 m2 m3 m4 m5 m6 m7 m8 m9 m10 m11 f n w w' ∧ w'.cell? ⟨B, 0, none⟩ = some (.int .i64 m0) ∧ w'.cell? ⟨B, 1, none⟩ = some (.int .i64 m1) ∧ w'.cell? ⟨B, 2, none⟩ = some (.int .i64 m2) ∧ w'.cell? ⟨B, 3, none⟩ = some (.int .i64 m3) ∧ w'.cell? ⟨B, 4, none⟩ = some (.int .i64 m4) ∧ w'.cell? ⟨B, 5, none⟩ = some (.int .i64 m5) ∧ w'.cell? ⟨B, 6, none⟩ = some (.int .i64 m6) ∧ w'.cell? ⟨B, 7, none⟩ = some (.int .i64 m7) ∧ w'.cell? ⟨B, 8, none⟩ = some (.int .i64 m8) ∧ w'.cell? ⟨B, 9, none⟩ = some (.int .i64 m9) ∧ w'.cell? ⟨B, 10, none⟩ = some (.int .i64 m10) ∧ w'.cell? ⟨B, 11, none⟩ = some (.int .i64 m11) ∧ w'.cell? ⟨B, 12, none⟩ = some (.func (.func f) #[] #[]) ∧ w'.cell? ⟨G, 0, none⟩ = some (.int .i64 n))
    (first | exact Cap.all (Cap.drew hC.out) | exact Cap.all hC.out | (go_split_ands; exact Cap.all (Cap.next (by assumption) hb1)) | go_keep)
    (first | (go_at_call 46; go_split_ands; refine (hst.out (i - 9999) _ b0 b1).mono ?_; rintro e w1 ⟨rfl, hb1⟩; have hB1 := Cap.next (by assumption) hb1))
  clear s1
  go_wp2_with fail
  go_ret
  exact ⟨rfl, hB1.below⟩

/-- What a search returns. -/
def Found (p : Int → Bool) (N : Int) (w : World) (e : Ending) (w' : World) : Prop :=
  Below w.heap.size w w' ∧ ∃ i : Int, e = .returned (.int .i64 i) ∧ 0 ≤ i ∧ i ≤ N ∧ (i = 0 ∨ p (i - 1) = false) ∧ (i = N ∨ p i = true)

set_option maxRecDepth 100000 in
set_option maxHeartbeats 1600000 in
theorem search_any (B G : Nat) (m0 m1 m2 m3 m4 m5 m6 m7 m8 m9 m10 m11 : Int) (f : FuncId) (c n : Int) (w : World) (hr : IsRules c (.agg #[.int .i64 m0, .int .i64 m1, .int .i64 m2, .int .i64 m3, .int .i64 m4, .int .i64 m5, .int .i64 m6, .int .i64 m7, .int .i64 m8, .int .i64 m9, .int .i64 m10, .int .i64 m11, .func (.func f) #[] #[]])) (hC : Hid (Cap B G m0 m1 m2 m3 m4 m5 m6 m7 m8 m9 m10 m11 f n w w)) :
    Calls Tryd.prog 47 #[.int .i64 19999, .func (.func 48) #[] #[.pointer (some ⟨B, 0, none⟩), .pointer (some ⟨G, 0, none⟩)]] w (Found (late c n) 19999 w) := by
  have hla := Lib.hid (fun i W h0 h1 hW => later_any B G m0 m1 m2 m3 m4 m5 m6 m7 m8 m9 m10 m11 f c n i W hr h0 h1 hW)
  clear hr
  go_enter Tryd.func47, Tryd.ntmps47
  go_wp2_with fail
  go_loopw [5, 6] (fun a b wr => ∃ i j : Nat, i ≤ j ∧ j ≤ 19999 ∧ a = .int .i64 i ∧ b = .int .i64 j ∧ Hid (((i : Int) = 0 ∨ late c n (i - 1) = false) ∧ ((j : Int) = 19999 ∨ late c n j = true)) ∧ Hid (Cap B G m0 m1 m2 m3 m4 m5 m6 m7 m8 m9 m10 m11 f n w wr)) (fun a b _ => (intOf b - intOf a).toNat)
  case atStart => exact ⟨0, 19999, by omega, by omega, rfl, rfl, Lib.hid ⟨.inl rfl, .inl rfl⟩, hC⟩
  case round =>
    obtain ⟨i, j, hij, hj, rfl, rfl, hin, hCr⟩ := hrel
    by_cases hlt : i < j
    · have eq : ((i : Int) + j) / 2 = ((i + j) / 2 : Nat) := by omega
      have hl := hla.out (((i + j) / 2 : Nat) : Int) wr (by omega) (by omega) (Lib.hid hCr.out.again)
      obtain ⟨q, hq⟩ : ∃ q, q = (i + j) / 2 := ⟨_, rfl⟩
      rw [← hq] at hl eq
      have hq0 : i ≤ q := by omega
      have hq1 : q < j := by omega
      clear hq
      have Hq := Lib.hid eq
      clear eq
      cases hv : late c n q with
      | true =>
        rw [hv] at hl
        have Hl := Lib.hid hl
        have Hv := Lib.hid hv
        clear hl hv
        go_wp2_with fail
        rw [Hq.out]
        refine Hl.out.mono ?_
        rintro e w3 ⟨rfl, hb3⟩
        have hC3 := Lib.hid (hCr.out.next hb3)
        clear hb3
        go_wp2_with fail
        go_roundw
        case rel => exact ⟨i, q, by omega, by omega, rfl, rfl, Lib.hid ⟨hin.out.1, .inr Hv.out⟩, hC3⟩
        case measure => simp [intOf]; omega
      | false =>
        rw [hv] at hl
        have Hl := Lib.hid hl
        have Hv := Lib.hid (show late c n (((q + 1 : Nat) : Int) - 1) = false by rw [show (((q + 1 : Nat) : Int) - 1) = (q : Int) by omega]; exact hv)
        clear hl hv
        go_wp2_with fail
        rw [Hq.out]
        refine Hl.out.mono ?_
        rintro e w3 ⟨rfl, hb3⟩
        have hC3 := Lib.hid (hCr.out.next hb3)
        clear hb3
        go_wp2_with fail
        go_roundw
        case rel => exact ⟨q + 1, j, by omega, by omega, by go_num, rfl, Lib.hid ⟨.inr Hv.out, hin.out.2⟩, hC3⟩
        case measure => simp [intOf]; omega
    · obtain rfl : i = j := by omega
      go_wp2_with fail
      go_ret
      exact ⟨hCr.out.below, (i : Int), rfl, by omega, by omega, hin.out.1, hin.out.2⟩
end Go.Proofs.YthpeaeepcbbfcaaDoor
