/- AddMonths. -/
import Derived.Test.YthpeaeepcbbfcaaY
namespace Go.Proofs.Ythpeaeepcbbfcaa
open Go.RowKit

/-- What AddMonths keeps: the date, its result's box, the rules. -/
structure Am (B R : Nat) (m0 m1 m2 m3 m4 m5 m6 m7 m8 m9 m10 m11 : Int) (f : FuncId) (y m d : Int) (w0 W : World) : Prop where
  low : w0.heap.size ≤ B
  far : B + 1 < R
  below : Below w0.heap.size w0 W
  bd : Bk W B #[.int .i64 y, .int .i64 m, .int .i64 d] 28
  r1 : Bk W R #[.int .i64 m0, .int .i64 m1, .int .i64 m2, .int .i64 m3, .int .i64 m4, .int .i64 m5, .int .i64 m6, .int .i64 m7, .int .i64 m8, .int .i64 m9, .int .i64 m10, .int .i64 m11, .func (.func f) #[] #[]] 68
  br : ∃ c0 c1 c2, Bk W (B + 1) #[c0, c1, c2] 28
theorem heap_set' {W : World} (g k : Nat) (c : Array Value) (T : TypeId) (v : Value) (h : Bk W g c T) : Bk (W.setCell ⟨g, k, none⟩ v) g (c.setIfInBounds k v) T := heap_set _ _ _ _ _ h
theorem Bk.far {W : World} {g b k : Nat} {cs : Array Value} {T : TypeId} (h : Bk W g cs T) (hne : g ≠ b) (v : Value) : Bk (W.setCell ⟨b, k, none⟩ v) g cs T := (Below.heap_setCell _ _ _ _ hne).trans h
variable {B R : Nat} {m0 m1 m2 m3 m4 m5 m6 m7 m8 m9 m10 m11 : Int} {f : FuncId} {y m d : Int} {w0 W W' : World}
theorem Am.next (h : Am B R m0 m1 m2 m3 m4 m5 m6 m7 m8 m9 m10 m11 f y m d w0 W) (hb : Below W.heap.size W W') : Am B R m0 m1 m2 m3 m4 m5 m6 m7 m8 m9 m10 m11 f y m d w0 W' :=
  ⟨h.low, h.far, bel_next h.below hb, h.bd.next hb, h.r1.next hb, h.br.elim fun c0 k => k.elim fun c1 k => k.elim fun c2 k => ⟨c0, c1, c2, k.next hb⟩⟩
theorem Am.drew (h : Am B R m0 m1 m2 m3 m4 m5 m6 m7 m8 m9 m10 m11 f y m d w0 W) : Am B R m0 m1 m2 m3 m4 m5 m6 m7 m8 m9 m10 m11 f y m d w0 W.drew := ⟨h.low, h.far, h.below.drew, h.bd, h.r1, h.br⟩
theorem Am.put0 (h : Am B R m0 m1 m2 m3 m4 m5 m6 m7 m8 m9 m10 m11 f y m d w0 W) (v : Value) : Am B R m0 m1 m2 m3 m4 m5 m6 m7 m8 m9 m10 m11 f y m d w0 (W.setCell ⟨B + 1, 0, none⟩ v) :=
  ⟨h.low, h.far, h.below.setCell (by show w0.heap.size ≤ B + 1; have := h.low; omega) _, h.bd.far (by omega) _, h.r1.far (by have := h.far; omega) _, h.br.elim fun c0 k => k.elim fun c1 k => k.elim fun c2 k => ⟨v, c1, c2, heap_set' _ _ _ _ _ k⟩⟩
theorem Am.put1 (h : Am B R m0 m1 m2 m3 m4 m5 m6 m7 m8 m9 m10 m11 f y m d w0 W) (v : Value) : Am B R m0 m1 m2 m3 m4 m5 m6 m7 m8 m9 m10 m11 f y m d w0 (W.setCell ⟨B + 1, 1, none⟩ v) :=
  ⟨h.low, h.far, h.below.setCell (by show w0.heap.size ≤ B + 1; have := h.low; omega) _, h.bd.far (by omega) _, h.r1.far (by have := h.far; omega) _, h.br.elim fun c0 k => k.elim fun c1 k => k.elim fun c2 k => ⟨c0, v, c2, heap_set' _ _ _ _ _ k⟩⟩
theorem Am.put2 (h : Am B R m0 m1 m2 m3 m4 m5 m6 m7 m8 m9 m10 m11 f y m d w0 W) (v : Value) : Am B R m0 m1 m2 m3 m4 m5 m6 m7 m8 m9 m10 m11 f y m d w0 (W.setCell ⟨B + 1, 2, none⟩ v) :=
  ⟨h.low, h.far, h.below.setCell (by show w0.heap.size ≤ B + 1; have := h.low; omega) _, h.bd.far (by omega) _, h.r1.far (by have := h.far; omega) _, h.br.elim fun c0 k => k.elim fun c1 k => k.elim fun c2 k => ⟨c0, c1, v, heap_set' _ _ _ _ _ k⟩⟩
theorem Am.all (h : Am B R m0 m1 m2 m3 m4 m5 m6 m7 m8 m9 m10 m11 f y m d w0 W) : Am B R m0 m1 m2 m3 m4 m5 m6 m7 m8 m9 m10 m11 f y m d w0 W ∧ (W.cell? ⟨R, 0, none⟩ = some (.int .i64 m0) ∧ W.cell? ⟨R, 1, none⟩ = some (.int .i64 m1) ∧ W.cell? ⟨R, 2, none⟩ = some (.int .i64 m2) ∧ W.cell? ⟨R, 3, none⟩ = some (.int .i64 m3) ∧ W.cell? ⟨R, 4, none⟩ = some (.int .i64 m4) ∧ W.cell? ⟨R, 5, none⟩ = some (.int .i64 m5) ∧ W.cell? ⟨R, 6, none⟩ = some (.int .i64 m6) ∧ W.cell? ⟨R, 7, none⟩ = some (.int .i64 m7) ∧ W.cell? ⟨R, 8, none⟩ = some (.int .i64 m8) ∧ W.cell? ⟨R, 9, none⟩ = some (.int .i64 m9) ∧ W.cell? ⟨R, 10, none⟩ = some (.int .i64 m10) ∧ W.cell? ⟨R, 11, none⟩ = some (.int .i64 m11) ∧ W.cell? ⟨R, 12, none⟩ = some (.func (.func f) #[] #[])) ∧ (W.cell? ⟨B, 0, none⟩ = some (.int .i64 y) ∧ W.cell? ⟨B, 1, none⟩ = some (.int .i64 m) ∧ W.cell? ⟨B, 2, none⟩ = some (.int .i64 d)) :=
  ⟨h, ⟨h.r1.cell 0, h.r1.cell 1, h.r1.cell 2, h.r1.cell 3, h.r1.cell 4, h.r1.cell 5, h.r1.cell 6, h.r1.cell 7, h.r1.cell 8, h.r1.cell 9, h.r1.cell 10, h.r1.cell 11, h.r1.cell 12⟩, h.bd.cell 0, h.bd.cell 1, h.bd.cell 2⟩
theorem Am.slots (h : Am B R m0 m1 m2 m3 m4 m5 m6 m7 m8 m9 m10 m11 f y m d w0 W) : ∃ c0 c1 c2, W.cell? ⟨B + 1, 0, none⟩ = some c0 ∧ W.cell? ⟨B + 1, 1, none⟩ = some c1 ∧ W.cell? ⟨B + 1, 2, none⟩ = some c2 ∧ W.frozen? ⟨B + 1, 0, none⟩ = false ∧ W.frozen? ⟨B + 1, 1, none⟩ = false ∧ W.frozen? ⟨B + 1, 2, none⟩ = false :=
  h.br.elim fun c0 k => k.elim fun c1 k => k.elim fun c2 k => ⟨c0, c1, c2, k.cell 0, k.cell 1, k.cell 2, k.free 0, k.free 1, k.free 2⟩

def amY (y m n : Int) : Int := (12 * y + m - 1 + n) / 12
def amM (y m n : Int) : Int := (12 * y + m - 1 + n) % 12 + 1
theorem tdiv12 (n : Int) : n = 12 * n.tdiv 12 + n.tmod 12 ∧ -11 ≤ n.tmod 12 ∧ n.tmod 12 ≤ 11 := by
  refine ⟨(Int.mul_tdiv_add_tmod n 12).symm, ?_, ?_⟩
  · by_cases h : 0 ≤ n
    · have := Int.tmod_nonneg 12 h; omega
    · have e : n.tmod 12 = -((-n).tmod 12) := by rw [Int.neg_tmod]; omega
      have := Int.tmod_lt_of_pos (-n) (show (0 : Int) < 12 by omega)
      omega
  · have := Int.tmod_lt_of_pos n (show (0 : Int) < 12 by omega)
    omega
theorem am_eq {y m n a b : Int} (h : 12 * a + b = n + m) (h1 : 1 ≤ b) (h2 : b ≤ 12) : y + a = amY y m n ∧ b = amM y m n := by
  unfold amY amM; omega

set_option maxRecDepth 100000 in
set_option maxHeartbeats 3200000 in
theorem am_nocal (c y m d n : Int) (w : World) (h : ¬ isCal c) : Calls Try.prog 32 #[.int .i64 c, .agg #[.int .i64 y, .int .i64 m, .int .i64 d], .int .i64 n] w fun e w' => e = .returned (.tuple #[.agg #[.int .i64 0, .int .i64 0, .int .i64 0], .int .i64 20]) ∧ Below w.heap.size w w' := by
  have h1 := Lib.hid (fun W => rulesOf_no c W h)
  clear h
  have HB := Lib.hid (Below.refl w.heap.size w)
  have bd := Lib.hid (Bk.newAt w #[.int .i64 y, .int .i64 m, .int .i64 d] 28 (w.heap.size) (by simp))
  have HB := Lib.hid (kept_more (o := (.cells #[.int .i64 y, .int .i64 m, .int .i64 d] 28)) HB.out)
  have bd := Lib.hid (bd.out.more (.cells #[.int .i64 0, .int .i64 0, .int .i64 0] 28))
  have br := Lib.hid (Bk.newAt (w.alloc (.cells #[.int .i64 y, .int .i64 m, .int .i64 d] 28)) #[.int .i64 0, .int .i64 0, .int .i64 0] 28 (w.heap.size + 1) (by simp))
  have HB := Lib.hid (kept_more (o := (.cells #[.int .i64 0, .int .i64 0, .int .i64 0] 28)) HB.out)
  go_enter Try.func32, Try.ntmps32
  go_wp2_with fail
  refine (h1.out _).mono ?_
  rintro e w2 ⟨rfl, hb⟩
  have bd := Lib.hid (bd.out.next hb)
  have br := Lib.hid (br.out.next hb)
  have HB := Lib.hid (bel_next HB.out hb)
  clear hb
  have bd := Lib.hid (bd.out.more (.cells #[.int .i64 0, .int .i64 0, .int .i64 0, .int .i64 0, .int .i64 0, .int .i64 0, .int .i64 0, .int .i64 0, .int .i64 0, .int .i64 0, .int .i64 0, .int .i64 0, .nilFunc] 68))
  have br := Lib.hid (br.out.more (.cells #[.int .i64 0, .int .i64 0, .int .i64 0, .int .i64 0, .int .i64 0, .int .i64 0, .int .i64 0, .int .i64 0, .int .i64 0, .int .i64 0, .int .i64 0, .int .i64 0, .nilFunc] 68))
  have HB := Lib.hid (kept_more (o := (.cells #[.int .i64 0, .int .i64 0, .int .i64 0, .int .i64 0, .int .i64 0, .int .i64 0, .int .i64 0, .int .i64 0, .int .i64 0, .int .i64 0, .int .i64 0, .int .i64 0, .nilFunc] 68)) HB.out)
  have br_c0 := br.out.cell 0
  have br_f0 := br.out.free 0
  have br_c1 := br.out.cell 1
  have br_f1 := br.out.free 1
  have br_c2 := br.out.cell 2
  have br_f2 := br.out.free 2
  go_wp2_with fail
  refine bodyPost_ret (v := .tuple #[.agg #[.int .i64 0, .int .i64 0, .int .i64 0], .int .i64 20]) (by simp [results, Try.results32, go_sem, br_c0, br_c1, br_c2]) rfl ⟨rfl, ?_⟩
  exact ((HB.out.setCell (by show w.heap.size ≤ w.heap.size + 1; omega) _).setCell (by show w.heap.size ≤ w.heap.size + 1; omega) _).setCell (by show w.heap.size ≤ w.heap.size + 1; omega) _

set_option maxRecDepth 100000 in
set_option maxHeartbeats 3200000 in
theorem am_bad (c y m d n : Int) (w : World) (h : isCal c) (v1 : Hid (ok c y m d = false)) : Calls Try.prog 32 #[.int .i64 c, .agg #[.int .i64 y, .int .i64 m, .int .i64 d], .int .i64 n] w fun e w' => e = .returned (.tuple #[.agg #[.int .i64 0, .int .i64 0, .int .i64 0], .int .i64 21]) ∧ Below w.heap.size w w' := by
  have h1 := Lib.hid (fun W => rulesOf_ok c W h)
  clear h
  have HB := Lib.hid (Below.refl w.heap.size w)
  have bd := Lib.hid (Bk.newAt w #[.int .i64 y, .int .i64 m, .int .i64 d] 28 (w.heap.size) (by simp))
  have HB := Lib.hid (kept_more (o := (.cells #[.int .i64 y, .int .i64 m, .int .i64 d] 28)) HB.out)
  have bd := Lib.hid (bd.out.more (.cells #[.int .i64 0, .int .i64 0, .int .i64 0] 28))
  have br := Lib.hid (Bk.newAt (w.alloc (.cells #[.int .i64 y, .int .i64 m, .int .i64 d] 28)) #[.int .i64 0, .int .i64 0, .int .i64 0] 28 (w.heap.size + 1) (by simp))
  have HB := Lib.hid (kept_more (o := (.cells #[.int .i64 0, .int .i64 0, .int .i64 0] 28)) HB.out)
  go_enter Try.func32, Try.ntmps32
  go_wp2_with fail
  refine (h1.out _).mono ?_
  rintro e w2 ⟨r, rfl, hr, hb⟩
  have Hlt := Lib.hid (br.out.next hb).lt
  obtain ⟨m0, m1, m2, m3, m4, m5, m6, m7, m8, m9, m10, m11, f, rfl⟩ := hr.form
  have Hr := Lib.hid hr
  clear hr
  have bd := Lib.hid (bd.out.next hb)
  have br := Lib.hid (br.out.next hb)
  have HB := Lib.hid (bel_next HB.out hb)
  clear hb
  have bd := Lib.hid (bd.out.more (.cells #[.int .i64 m0, .int .i64 m1, .int .i64 m2, .int .i64 m3, .int .i64 m4, .int .i64 m5, .int .i64 m6, .int .i64 m7, .int .i64 m8, .int .i64 m9, .int .i64 m10, .int .i64 m11, .func (.func f) #[] #[]] 68))
  have br := Lib.hid (br.out.more (.cells #[.int .i64 m0, .int .i64 m1, .int .i64 m2, .int .i64 m3, .int .i64 m4, .int .i64 m5, .int .i64 m6, .int .i64 m7, .int .i64 m8, .int .i64 m9, .int .i64 m10, .int .i64 m11, .func (.func f) #[] #[]] 68))
  have r1 := Lib.hid (Bk.newAt w2 #[.int .i64 m0, .int .i64 m1, .int .i64 m2, .int .i64 m3, .int .i64 m4, .int .i64 m5, .int .i64 m6, .int .i64 m7, .int .i64 m8, .int .i64 m9, .int .i64 m10, .int .i64 m11, .func (.func f) #[] #[]] 68 (w2.heap.size) (by simp))
  have HB := Lib.hid (kept_more (o := (.cells #[.int .i64 m0, .int .i64 m1, .int .i64 m2, .int .i64 m3, .int .i64 m4, .int .i64 m5, .int .i64 m6, .int .i64 m7, .int .i64 m8, .int .i64 m9, .int .i64 m10, .int .i64 m11, .func (.func f) #[] #[]] 68)) HB.out)
  have r1_c0 := r1.out.cell 0
  have r1_c1 := r1.out.cell 1
  have r1_c2 := r1.out.cell 2
  have r1_c3 := r1.out.cell 3
  have r1_c4 := r1.out.cell 4
  have r1_c5 := r1.out.cell 5
  have r1_c6 := r1.out.cell 6
  have r1_c7 := r1.out.cell 7
  have r1_c8 := r1.out.cell 8
  have r1_c9 := r1.out.cell 9
  have r1_c10 := r1.out.cell 10
  have r1_c11 := r1.out.cell 11
  have r1_c12 := r1.out.cell 12
  have bd_c0 := bd.out.cell 0
  have bd_c1 := bd.out.cell 1
  have bd_c2 := bd.out.cell 2
  have hv1 := Lib.hid (fun W => valid_any _ c y m d W Hr.out)
  rw [v1.out] at hv1
  go_wp2_with fail
  refine (hv1.out _).mono ?_
  rintro e w3 ⟨rfl, hb⟩
  have bd := Lib.hid (bd.out.next hb)
  have br := Lib.hid (br.out.next hb)
  have r1 := Lib.hid (r1.out.next hb)
  have HB := Lib.hid (bel_next HB.out hb)
  clear r1_c0 r1_c1 r1_c2 r1_c3 r1_c4 r1_c5 r1_c6 r1_c7 r1_c8 r1_c9 r1_c10 r1_c11 r1_c12 bd_c0 bd_c1 bd_c2
  clear hb
  have br_c0 := br.out.cell 0
  have br_f0 := br.out.free 0
  have br_c1 := br.out.cell 1
  have br_f1 := br.out.free 1
  have br_c2 := br.out.cell 2
  have br_f2 := br.out.free 2
  go_wp2_with fail
  refine bodyPost_ret (v := .tuple #[.agg #[.int .i64 0, .int .i64 0, .int .i64 0], .int .i64 21]) (by simp [results, Try.results32, go_sem, br_c0, br_c1, br_c2]) rfl ⟨rfl, ?_⟩
  exact ((HB.out.setCell (by show w.heap.size ≤ w.heap.size + 1; omega) _).setCell (by show w.heap.size ≤ w.heap.size + 1; omega) _).setCell (by show w.heap.size ≤ w.heap.size + 1; omega) _

set_option maxRecDepth 100000 in
set_option maxHeartbeats 3200000 in
theorem am_low (c y m d n : Int) (w : World) (h : isCal c) (v1 : Hid (ok c y m d = true)) (t1 : decide (n < -240000) = true) : Calls Try.prog 32 #[.int .i64 c, .agg #[.int .i64 y, .int .i64 m, .int .i64 d], .int .i64 n] w fun e w' => e = .returned (.tuple #[.agg #[.int .i64 0, .int .i64 0, .int .i64 0], .int .i64 2]) ∧ Below w.heap.size w w' := by
  have h1 := Lib.hid (fun W => rulesOf_ok c W h)
  clear h
  have HB := Lib.hid (Below.refl w.heap.size w)
  have bd := Lib.hid (Bk.newAt w #[.int .i64 y, .int .i64 m, .int .i64 d] 28 (w.heap.size) (by simp))
  have HB := Lib.hid (kept_more (o := (.cells #[.int .i64 y, .int .i64 m, .int .i64 d] 28)) HB.out)
  have bd := Lib.hid (bd.out.more (.cells #[.int .i64 0, .int .i64 0, .int .i64 0] 28))
  have br := Lib.hid (Bk.newAt (w.alloc (.cells #[.int .i64 y, .int .i64 m, .int .i64 d] 28)) #[.int .i64 0, .int .i64 0, .int .i64 0] 28 (w.heap.size + 1) (by simp))
  have HB := Lib.hid (kept_more (o := (.cells #[.int .i64 0, .int .i64 0, .int .i64 0] 28)) HB.out)
  go_enter Try.func32, Try.ntmps32
  go_wp2_with fail
  refine (h1.out _).mono ?_
  rintro e w2 ⟨r, rfl, hr, hb⟩
  have Hlt := Lib.hid (br.out.next hb).lt
  obtain ⟨m0, m1, m2, m3, m4, m5, m6, m7, m8, m9, m10, m11, f, rfl⟩ := hr.form
  have Hr := Lib.hid hr
  clear hr
  have bd := Lib.hid (bd.out.next hb)
  have br := Lib.hid (br.out.next hb)
  have HB := Lib.hid (bel_next HB.out hb)
  clear hb
  have bd := Lib.hid (bd.out.more (.cells #[.int .i64 m0, .int .i64 m1, .int .i64 m2, .int .i64 m3, .int .i64 m4, .int .i64 m5, .int .i64 m6, .int .i64 m7, .int .i64 m8, .int .i64 m9, .int .i64 m10, .int .i64 m11, .func (.func f) #[] #[]] 68))
  have br := Lib.hid (br.out.more (.cells #[.int .i64 m0, .int .i64 m1, .int .i64 m2, .int .i64 m3, .int .i64 m4, .int .i64 m5, .int .i64 m6, .int .i64 m7, .int .i64 m8, .int .i64 m9, .int .i64 m10, .int .i64 m11, .func (.func f) #[] #[]] 68))
  have r1 := Lib.hid (Bk.newAt w2 #[.int .i64 m0, .int .i64 m1, .int .i64 m2, .int .i64 m3, .int .i64 m4, .int .i64 m5, .int .i64 m6, .int .i64 m7, .int .i64 m8, .int .i64 m9, .int .i64 m10, .int .i64 m11, .func (.func f) #[] #[]] 68 (w2.heap.size) (by simp))
  have HB := Lib.hid (kept_more (o := (.cells #[.int .i64 m0, .int .i64 m1, .int .i64 m2, .int .i64 m3, .int .i64 m4, .int .i64 m5, .int .i64 m6, .int .i64 m7, .int .i64 m8, .int .i64 m9, .int .i64 m10, .int .i64 m11, .func (.func f) #[] #[]] 68)) HB.out)
  have r1_c0 := r1.out.cell 0
  have r1_c1 := r1.out.cell 1
  have r1_c2 := r1.out.cell 2
  have r1_c3 := r1.out.cell 3
  have r1_c4 := r1.out.cell 4
  have r1_c5 := r1.out.cell 5
  have r1_c6 := r1.out.cell 6
  have r1_c7 := r1.out.cell 7
  have r1_c8 := r1.out.cell 8
  have r1_c9 := r1.out.cell 9
  have r1_c10 := r1.out.cell 10
  have r1_c11 := r1.out.cell 11
  have r1_c12 := r1.out.cell 12
  have bd_c0 := bd.out.cell 0
  have bd_c1 := bd.out.cell 1
  have bd_c2 := bd.out.cell 2
  have hv1 := Lib.hid (fun W => valid_any _ c y m d W Hr.out)
  rw [v1.out] at hv1
  go_wp2_with fail
  refine (hv1.out _).mono ?_
  rintro e w3 ⟨rfl, hb⟩
  have bd := Lib.hid (bd.out.next hb)
  have br := Lib.hid (br.out.next hb)
  have r1 := Lib.hid (r1.out.next hb)
  have HB := Lib.hid (bel_next HB.out hb)
  clear r1_c0 r1_c1 r1_c2 r1_c3 r1_c4 r1_c5 r1_c6 r1_c7 r1_c8 r1_c9 r1_c10 r1_c11 r1_c12 bd_c0 bd_c1 bd_c2
  clear hb
  have br_c0 := br.out.cell 0
  have br_f0 := br.out.free 0
  have br_c1 := br.out.cell 1
  have br_f1 := br.out.free 1
  have br_c2 := br.out.cell 2
  have br_f2 := br.out.free 2
  go_wp2_with fail
  refine bodyPost_ret (v := .tuple #[.agg #[.int .i64 0, .int .i64 0, .int .i64 0], .int .i64 2]) (by simp [results, Try.results32, go_sem, br_c0, br_c1, br_c2]) rfl ⟨rfl, ?_⟩
  exact ((HB.out.setCell (by show w.heap.size ≤ w.heap.size + 1; omega) _).setCell (by show w.heap.size ≤ w.heap.size + 1; omega) _).setCell (by show w.heap.size ≤ w.heap.size + 1; omega) _

set_option maxRecDepth 100000 in
set_option maxHeartbeats 3200000 in
theorem am_high (c y m d n : Int) (w : World) (h : isCal c) (v1 : Hid (ok c y m d = true)) (t1 : decide (n < -240000) = false) (t2 : decide (240000 < n) = true) : Calls Try.prog 32 #[.int .i64 c, .agg #[.int .i64 y, .int .i64 m, .int .i64 d], .int .i64 n] w fun e w' => e = .returned (.tuple #[.agg #[.int .i64 0, .int .i64 0, .int .i64 0], .int .i64 2]) ∧ Below w.heap.size w w' := by
  have h1 := Lib.hid (fun W => rulesOf_ok c W h)
  clear h
  have HB := Lib.hid (Below.refl w.heap.size w)
  have bd := Lib.hid (Bk.newAt w #[.int .i64 y, .int .i64 m, .int .i64 d] 28 (w.heap.size) (by simp))
  have HB := Lib.hid (kept_more (o := (.cells #[.int .i64 y, .int .i64 m, .int .i64 d] 28)) HB.out)
  have bd := Lib.hid (bd.out.more (.cells #[.int .i64 0, .int .i64 0, .int .i64 0] 28))
  have br := Lib.hid (Bk.newAt (w.alloc (.cells #[.int .i64 y, .int .i64 m, .int .i64 d] 28)) #[.int .i64 0, .int .i64 0, .int .i64 0] 28 (w.heap.size + 1) (by simp))
  have HB := Lib.hid (kept_more (o := (.cells #[.int .i64 0, .int .i64 0, .int .i64 0] 28)) HB.out)
  go_enter Try.func32, Try.ntmps32
  go_wp2_with fail
  refine (h1.out _).mono ?_
  rintro e w2 ⟨r, rfl, hr, hb⟩
  have Hlt := Lib.hid (br.out.next hb).lt
  obtain ⟨m0, m1, m2, m3, m4, m5, m6, m7, m8, m9, m10, m11, f, rfl⟩ := hr.form
  have Hr := Lib.hid hr
  clear hr
  have bd := Lib.hid (bd.out.next hb)
  have br := Lib.hid (br.out.next hb)
  have HB := Lib.hid (bel_next HB.out hb)
  clear hb
  have bd := Lib.hid (bd.out.more (.cells #[.int .i64 m0, .int .i64 m1, .int .i64 m2, .int .i64 m3, .int .i64 m4, .int .i64 m5, .int .i64 m6, .int .i64 m7, .int .i64 m8, .int .i64 m9, .int .i64 m10, .int .i64 m11, .func (.func f) #[] #[]] 68))
  have br := Lib.hid (br.out.more (.cells #[.int .i64 m0, .int .i64 m1, .int .i64 m2, .int .i64 m3, .int .i64 m4, .int .i64 m5, .int .i64 m6, .int .i64 m7, .int .i64 m8, .int .i64 m9, .int .i64 m10, .int .i64 m11, .func (.func f) #[] #[]] 68))
  have r1 := Lib.hid (Bk.newAt w2 #[.int .i64 m0, .int .i64 m1, .int .i64 m2, .int .i64 m3, .int .i64 m4, .int .i64 m5, .int .i64 m6, .int .i64 m7, .int .i64 m8, .int .i64 m9, .int .i64 m10, .int .i64 m11, .func (.func f) #[] #[]] 68 (w2.heap.size) (by simp))
  have HB := Lib.hid (kept_more (o := (.cells #[.int .i64 m0, .int .i64 m1, .int .i64 m2, .int .i64 m3, .int .i64 m4, .int .i64 m5, .int .i64 m6, .int .i64 m7, .int .i64 m8, .int .i64 m9, .int .i64 m10, .int .i64 m11, .func (.func f) #[] #[]] 68)) HB.out)
  have r1_c0 := r1.out.cell 0
  have r1_c1 := r1.out.cell 1
  have r1_c2 := r1.out.cell 2
  have r1_c3 := r1.out.cell 3
  have r1_c4 := r1.out.cell 4
  have r1_c5 := r1.out.cell 5
  have r1_c6 := r1.out.cell 6
  have r1_c7 := r1.out.cell 7
  have r1_c8 := r1.out.cell 8
  have r1_c9 := r1.out.cell 9
  have r1_c10 := r1.out.cell 10
  have r1_c11 := r1.out.cell 11
  have r1_c12 := r1.out.cell 12
  have bd_c0 := bd.out.cell 0
  have bd_c1 := bd.out.cell 1
  have bd_c2 := bd.out.cell 2
  have hv1 := Lib.hid (fun W => valid_any _ c y m d W Hr.out)
  rw [v1.out] at hv1
  go_wp2_with fail
  refine (hv1.out _).mono ?_
  rintro e w3 ⟨rfl, hb⟩
  have bd := Lib.hid (bd.out.next hb)
  have br := Lib.hid (br.out.next hb)
  have r1 := Lib.hid (r1.out.next hb)
  have HB := Lib.hid (bel_next HB.out hb)
  clear r1_c0 r1_c1 r1_c2 r1_c3 r1_c4 r1_c5 r1_c6 r1_c7 r1_c8 r1_c9 r1_c10 r1_c11 r1_c12 bd_c0 bd_c1 bd_c2
  clear hb
  have br_c0 := br.out.cell 0
  have br_f0 := br.out.free 0
  have br_c1 := br.out.cell 1
  have br_f1 := br.out.free 1
  have br_c2 := br.out.cell 2
  have br_f2 := br.out.free 2
  go_wp2_with fail
  refine bodyPost_ret (v := .tuple #[.agg #[.int .i64 0, .int .i64 0, .int .i64 0], .int .i64 2]) (by simp [results, Try.results32, go_sem, br_c0, br_c1, br_c2]) rfl ⟨rfl, ?_⟩
  exact ((HB.out.setCell (by show w.heap.size ≤ w.heap.size + 1; omega) _).setCell (by show w.heap.size ≤ w.heap.size + 1; omega) _).setCell (by show w.heap.size ≤ w.heap.size + 1; omega) _

set_option maxRecDepth 100000 in
set_option maxHeartbeats 3200000 in
theorem am_a_no (c y m d n : Int) (w : World) (h : isCal c) (v1 : Hid (ok c y m d = true)) (t1 : decide (n < -240000) = false) (t2 : decide (240000 < n) = false) (n0 : -240000 ≤ n) (n1 : n ≤ 240000) (y0 : -9999 ≤ y) (y1 : y ≤ 9999) (k0 : 1 ≤ m) (k1 : m ≤ 12) (t3 : m + n.tmod 12 < 1) (hR : ¬ (-9999 ≤ amY y m n ∧ amY y m n ≤ 9999)) : Calls Try.prog 32 #[.int .i64 c, .agg #[.int .i64 y, .int .i64 m, .int .i64 d], .int .i64 n] w fun e w' => e = .returned (.tuple #[.agg #[.int .i64 0, .int .i64 0, .int .i64 0], .int .i64 21]) ∧ Below w.heap.size w w' := by
  have h1 := Lib.hid (fun W => rulesOf_ok c W h)
  clear h
  have HB := Lib.hid (Below.refl w.heap.size w)
  have bd := Lib.hid (Bk.newAt w #[.int .i64 y, .int .i64 m, .int .i64 d] 28 (w.heap.size) (by simp))
  have HB := Lib.hid (kept_more (o := (.cells #[.int .i64 y, .int .i64 m, .int .i64 d] 28)) HB.out)
  have bd := Lib.hid (bd.out.more (.cells #[.int .i64 0, .int .i64 0, .int .i64 0] 28))
  have br := Lib.hid (Bk.newAt (w.alloc (.cells #[.int .i64 y, .int .i64 m, .int .i64 d] 28)) #[.int .i64 0, .int .i64 0, .int .i64 0] 28 (w.heap.size + 1) (by simp))
  have HB := Lib.hid (kept_more (o := (.cells #[.int .i64 0, .int .i64 0, .int .i64 0] 28)) HB.out)
  go_enter Try.func32, Try.ntmps32
  go_wp2_with fail
  refine (h1.out _).mono ?_
  rintro e w2 ⟨r, rfl, hr, hb⟩
  have Hlt := Lib.hid (br.out.next hb).lt
  obtain ⟨m0, m1, m2, m3, m4, m5, m6, m7, m8, m9, m10, m11, f, rfl⟩ := hr.form
  have Hr := Lib.hid hr
  clear hr
  have bd := Lib.hid (bd.out.next hb)
  have br := Lib.hid (br.out.next hb)
  have HB := Lib.hid (bel_next HB.out hb)
  clear hb
  have bd := Lib.hid (bd.out.more (.cells #[.int .i64 m0, .int .i64 m1, .int .i64 m2, .int .i64 m3, .int .i64 m4, .int .i64 m5, .int .i64 m6, .int .i64 m7, .int .i64 m8, .int .i64 m9, .int .i64 m10, .int .i64 m11, .func (.func f) #[] #[]] 68))
  have br := Lib.hid (br.out.more (.cells #[.int .i64 m0, .int .i64 m1, .int .i64 m2, .int .i64 m3, .int .i64 m4, .int .i64 m5, .int .i64 m6, .int .i64 m7, .int .i64 m8, .int .i64 m9, .int .i64 m10, .int .i64 m11, .func (.func f) #[] #[]] 68))
  have r1 := Lib.hid (Bk.newAt w2 #[.int .i64 m0, .int .i64 m1, .int .i64 m2, .int .i64 m3, .int .i64 m4, .int .i64 m5, .int .i64 m6, .int .i64 m7, .int .i64 m8, .int .i64 m9, .int .i64 m10, .int .i64 m11, .func (.func f) #[] #[]] 68 (w2.heap.size) (by simp))
  have HB := Lib.hid (kept_more (o := (.cells #[.int .i64 m0, .int .i64 m1, .int .i64 m2, .int .i64 m3, .int .i64 m4, .int .i64 m5, .int .i64 m6, .int .i64 m7, .int .i64 m8, .int .i64 m9, .int .i64 m10, .int .i64 m11, .func (.func f) #[] #[]] 68)) HB.out)
  have r1_c0 := r1.out.cell 0
  have r1_c1 := r1.out.cell 1
  have r1_c2 := r1.out.cell 2
  have r1_c3 := r1.out.cell 3
  have r1_c4 := r1.out.cell 4
  have r1_c5 := r1.out.cell 5
  have r1_c6 := r1.out.cell 6
  have r1_c7 := r1.out.cell 7
  have r1_c8 := r1.out.cell 8
  have r1_c9 := r1.out.cell 9
  have r1_c10 := r1.out.cell 10
  have r1_c11 := r1.out.cell 11
  have r1_c12 := r1.out.cell 12
  have bd_c0 := bd.out.cell 0
  have bd_c1 := bd.out.cell 1
  have bd_c2 := bd.out.cell 2
  have hv1 := Lib.hid (fun W => valid_any _ c y m d W Hr.out)
  rw [v1.out] at hv1
  go_wp2_with fail
  refine (hv1.out _).mono ?_
  rintro e w3 ⟨rfl, hb⟩
  have bd := Lib.hid (bd.out.next hb)
  have br := Lib.hid (br.out.next hb)
  have r1 := Lib.hid (r1.out.next hb)
  have HB := Lib.hid (bel_next HB.out hb)
  clear r1_c0 r1_c1 r1_c2 r1_c3 r1_c4 r1_c5 r1_c6 r1_c7 r1_c8 r1_c9 r1_c10 r1_c11 r1_c12 bd_c0 bd_c1 bd_c2
  clear hb
  have bd_c0 := bd.out.cell 0
  have bd_c1 := bd.out.cell 1
  have bd_c2 := bd.out.cell 2
  obtain ⟨hq, hu0, hu1⟩ := tdiv12 n
  have Hq := Lib.hid hq
  have HR := Lib.hid hR
  clear hq hR
  have s1 : IntKind.i64.wrap (m + n.tmod 12) = m + n.tmod 12 := IntWalk.i64_in _ (by omega)
  go_wp2_with fail
  go_quiet (fail)
  clear s1 bd_c0 bd_c1 bd_c2
  have hb := below_drewN (Below.refl w3.heap.size w3) nq
  generalize w3.drewN nq = w4 at *
  have bd := Lib.hid (bd.out.next hb)
  have br := Lib.hid (br.out.next hb)
  have r1 := Lib.hid (r1.out.next hb)
  have hlt0 := Lib.hid (show w.heap.size + 1 < w2.heap.size from Hlt.out)
  have HB := Lib.hid (bel_next HB.out hb)
  clear hb
  have bd_c0 := bd.out.cell 0
  have bd_c1 := bd.out.cell 1
  have bd_c2 := bd.out.cell 2
  have Ht := Lib.hid (Int.le_of_lt_add_one (show n.tdiv 12 < 40000 + 1 by have := Hq.out; omega))
  have Hs := Lib.hid (Int.le_of_lt_add_one (show -40000 < n.tdiv 12 + 1 by have := Hq.out; omega))
  generalize n.tdiv 12 = t at *
  generalize n.tmod 12 = u at *
  have ht := Ht.out
  have hs := Hs.out
  have he := am_eq (y := y) (m := m) (n := n) (a := (t - 1)) (b := (m + u + 12)) (by have := Hq.out; omega) (by omega) (by omega)
  obtain ⟨eY, eM⟩ := he
  have EY := Lib.hid eY
  have EM := Lib.hid eM
  clear eY eM
  have hy := Lib.hid (fun W => isYear_no (y + (t - 1)) W (by rw [EY.out]; exact HR.out))
  go_wp2_with fail
  refine (hy.out _).mono ?_
  rintro e w5 ⟨rfl, rfl⟩
  clear bd_c0 bd_c1 bd_c2
  have br_c0 := br.out.cell 0
  have br_f0 := br.out.free 0
  have br_c1 := br.out.cell 1
  have br_f1 := br.out.free 1
  have br_c2 := br.out.cell 2
  have br_f2 := br.out.free 2
  go_wp2_with fail
  refine bodyPost_ret (v := .tuple #[.agg #[.int .i64 0, .int .i64 0, .int .i64 0], .int .i64 21]) (by simp [results, Try.results32, go_sem, br_c0, br_c1, br_c2]) rfl ⟨rfl, ?_⟩
  exact ((HB.out.setCell (by show w.heap.size ≤ w.heap.size + 1; omega) _).setCell (by show w.heap.size ≤ w.heap.size + 1; omega) _).setCell (by show w.heap.size ≤ w.heap.size + 1; omega) _

set_option maxRecDepth 100000 in
set_option maxHeartbeats 3200000 in
theorem am_a_yes (c y m d n : Int) (w : World) (h : isCal c) (v1 : Hid (ok c y m d = true)) (t1 : decide (n < -240000) = false) (t2 : decide (240000 < n) = false) (n0 : -240000 ≤ n) (n1 : n ≤ 240000) (y0 : -9999 ≤ y) (y1 : y ≤ 9999) (k0 : 1 ≤ m) (k1 : m ≤ 12) (t3 : m + n.tmod 12 < 1) (hR : -9999 ≤ amY y m n ∧ amY y m n ≤ 9999) : Calls Try.prog 32 #[.int .i64 c, .agg #[.int .i64 y, .int .i64 m, .int .i64 d], .int .i64 n] w fun e w' => e = .returned (.tuple #[.agg #[.int .i64 (amY y m n), .int .i64 (amM y m n), .int .i64 (min d (dm c (amY y m n) (amM y m n)))], .int .i64 0]) ∧ Below w.heap.size w w' := by
  have h1 := Lib.hid (fun W => rulesOf_ok c W h)
  clear h
  have HB := Lib.hid (Below.refl w.heap.size w)
  have bd := Lib.hid (Bk.newAt w #[.int .i64 y, .int .i64 m, .int .i64 d] 28 (w.heap.size) (by simp))
  have HB := Lib.hid (kept_more (o := (.cells #[.int .i64 y, .int .i64 m, .int .i64 d] 28)) HB.out)
  have bd := Lib.hid (bd.out.more (.cells #[.int .i64 0, .int .i64 0, .int .i64 0] 28))
  have br := Lib.hid (Bk.newAt (w.alloc (.cells #[.int .i64 y, .int .i64 m, .int .i64 d] 28)) #[.int .i64 0, .int .i64 0, .int .i64 0] 28 (w.heap.size + 1) (by simp))
  have HB := Lib.hid (kept_more (o := (.cells #[.int .i64 0, .int .i64 0, .int .i64 0] 28)) HB.out)
  go_enter Try.func32, Try.ntmps32
  go_wp2_with fail
  refine (h1.out _).mono ?_
  rintro e w2 ⟨r, rfl, hr, hb⟩
  have Hlt := Lib.hid (br.out.next hb).lt
  obtain ⟨m0, m1, m2, m3, m4, m5, m6, m7, m8, m9, m10, m11, f, rfl⟩ := hr.form
  have Hr := Lib.hid hr
  clear hr
  have bd := Lib.hid (bd.out.next hb)
  have br := Lib.hid (br.out.next hb)
  have HB := Lib.hid (bel_next HB.out hb)
  clear hb
  have bd := Lib.hid (bd.out.more (.cells #[.int .i64 m0, .int .i64 m1, .int .i64 m2, .int .i64 m3, .int .i64 m4, .int .i64 m5, .int .i64 m6, .int .i64 m7, .int .i64 m8, .int .i64 m9, .int .i64 m10, .int .i64 m11, .func (.func f) #[] #[]] 68))
  have br := Lib.hid (br.out.more (.cells #[.int .i64 m0, .int .i64 m1, .int .i64 m2, .int .i64 m3, .int .i64 m4, .int .i64 m5, .int .i64 m6, .int .i64 m7, .int .i64 m8, .int .i64 m9, .int .i64 m10, .int .i64 m11, .func (.func f) #[] #[]] 68))
  have r1 := Lib.hid (Bk.newAt w2 #[.int .i64 m0, .int .i64 m1, .int .i64 m2, .int .i64 m3, .int .i64 m4, .int .i64 m5, .int .i64 m6, .int .i64 m7, .int .i64 m8, .int .i64 m9, .int .i64 m10, .int .i64 m11, .func (.func f) #[] #[]] 68 (w2.heap.size) (by simp))
  have HB := Lib.hid (kept_more (o := (.cells #[.int .i64 m0, .int .i64 m1, .int .i64 m2, .int .i64 m3, .int .i64 m4, .int .i64 m5, .int .i64 m6, .int .i64 m7, .int .i64 m8, .int .i64 m9, .int .i64 m10, .int .i64 m11, .func (.func f) #[] #[]] 68)) HB.out)
  have r1_c0 := r1.out.cell 0
  have r1_c1 := r1.out.cell 1
  have r1_c2 := r1.out.cell 2
  have r1_c3 := r1.out.cell 3
  have r1_c4 := r1.out.cell 4
  have r1_c5 := r1.out.cell 5
  have r1_c6 := r1.out.cell 6
  have r1_c7 := r1.out.cell 7
  have r1_c8 := r1.out.cell 8
  have r1_c9 := r1.out.cell 9
  have r1_c10 := r1.out.cell 10
  have r1_c11 := r1.out.cell 11
  have r1_c12 := r1.out.cell 12
  have bd_c0 := bd.out.cell 0
  have bd_c1 := bd.out.cell 1
  have bd_c2 := bd.out.cell 2
  have hv1 := Lib.hid (fun W => valid_any _ c y m d W Hr.out)
  rw [v1.out] at hv1
  go_wp2_with fail
  refine (hv1.out _).mono ?_
  rintro e w3 ⟨rfl, hb⟩
  have bd := Lib.hid (bd.out.next hb)
  have br := Lib.hid (br.out.next hb)
  have r1 := Lib.hid (r1.out.next hb)
  have HB := Lib.hid (bel_next HB.out hb)
  clear r1_c0 r1_c1 r1_c2 r1_c3 r1_c4 r1_c5 r1_c6 r1_c7 r1_c8 r1_c9 r1_c10 r1_c11 r1_c12 bd_c0 bd_c1 bd_c2
  clear hb
  have bd_c0 := bd.out.cell 0
  have bd_c1 := bd.out.cell 1
  have bd_c2 := bd.out.cell 2
  obtain ⟨hq, hu0, hu1⟩ := tdiv12 n
  have Hq := Lib.hid hq
  have HR := Lib.hid hR
  clear hq hR
  have s1 : IntKind.i64.wrap (m + n.tmod 12) = m + n.tmod 12 := IntWalk.i64_in _ (by omega)
  go_wp2_with fail
  go_quiet (fail)
  clear s1 bd_c0 bd_c1 bd_c2
  have hb := below_drewN (Below.refl w3.heap.size w3) nq
  generalize w3.drewN nq = w4 at *
  have bd := Lib.hid (bd.out.next hb)
  have br := Lib.hid (br.out.next hb)
  have r1 := Lib.hid (r1.out.next hb)
  have hlt0 := Lib.hid (show w.heap.size + 1 < w2.heap.size from Hlt.out)
  have HB := Lib.hid (bel_next HB.out hb)
  clear hb
  have bd_c0 := bd.out.cell 0
  have bd_c1 := bd.out.cell 1
  have bd_c2 := bd.out.cell 2
  have Ht := Lib.hid (Int.le_of_lt_add_one (show n.tdiv 12 < 40000 + 1 by have := Hq.out; omega))
  have Hs := Lib.hid (Int.le_of_lt_add_one (show -40000 < n.tdiv 12 + 1 by have := Hq.out; omega))
  generalize n.tdiv 12 = t at *
  generalize n.tmod 12 = u at *
  have ht := Ht.out
  have hs := Hs.out
  have he := am_eq (y := y) (m := m) (n := n) (a := (t - 1)) (b := (m + u + 12)) (by have := Hq.out; omega) (by omega) (by omega)
  obtain ⟨eY, eM⟩ := he
  have EY := Lib.hid eY
  have EM := Lib.hid eM
  clear eY eM
  have hr0 := HR.out.1
  have hr1 := HR.out.2
  rw [← EY.out] at hr0 hr1
  have hy := Lib.hid (fun W => isYear_yes (y + (t - 1)) W hr0 hr1)
  have hda := Lib.hid (fun W => Hr.out.days (y + (t - 1)) (m + u + 12) W (by omega) (by omega) (by omega) (by omega))
  have hA := Lib.hid (show Am w.heap.size w2.heap.size m0 m1 m2 m3 m4 m5 m6 m7 m8 m9 m10 m11 f y m d w w4 from ⟨Nat.le_refl _, hlt0.out, HB.out, bd.out, r1.out, ⟨_, _, _, br.out⟩⟩)
  go_wp2_with fail
  refine (hy.out _).mono ?_
  rintro e w5 ⟨rfl, rfl⟩
  by_cases hmin : dm c (y + (t - 1)) (m + u + 12) < d
  · have Em := Lib.hid (show dm c (y + (t - 1)) (m + u + 12) = min d (dm c (y + (t - 1)) (m + u + 12)) by omega)
    go_wp2_with fail
    clear bd_c0 bd_c1 bd_c2
    go_region_held3 (fun w' => Am w.heap.size w2.heap.size m0 m1 m2 m3 m4 m5 m6 m7 m8 m9 m10 m11 f y m d w w' ∧ (w'.cell? ⟨w2.heap.size, 0, none⟩ = some (.int .i64 m0) ∧ w'.cell? ⟨w2.heap.size, 1, none⟩ = some (.int .i64 m1) ∧ w'.cell? ⟨w2.heap.size, 2, none⟩ = some (.int .i64 m2) ∧ w'.cell? ⟨w2.heap.size, 3, none⟩ = some (.int .i64 m3) ∧ w'.cell? ⟨w2.heap.size, 4, none⟩ = some (.int .i64 m4) ∧ w'.cell? ⟨w2.heap.size, 5, none⟩ = some (.int .i64 m5) ∧ w'.cell? ⟨w2.heap.size, 6, none⟩ = some (.int .i64 m6) ∧ w'.cell? ⟨w2.heap.size, 7, none⟩ = some (.int .i64 m7) ∧ w'.cell? ⟨w2.heap.size, 8, none⟩ = some (.int .i64 m8) ∧ w'.cell? ⟨w2.heap.size, 9, none⟩ = some (.int .i64 m9) ∧ w'.cell? ⟨w2.heap.size, 10, none⟩ = some (.int .i64 m10) ∧ w'.cell? ⟨w2.heap.size, 11, none⟩ = some (.int .i64 m11) ∧ w'.cell? ⟨w2.heap.size, 12, none⟩ = some (.func (.func f) #[] #[])) ∧ (w'.cell? ⟨w.heap.size, 0, none⟩ = some (.int .i64 y) ∧ w'.cell? ⟨w.heap.size, 1, none⟩ = some (.int .i64 m) ∧ w'.cell? ⟨w.heap.size, 2, none⟩ = some (.int .i64 d)))
      (first | exact Am.all (Am.put2 (Am.put1 (Am.put0 hA1.out _) _) _) | exact Am.all (Am.drew hA.out) | exact Am.all hA.out | (go_split_ands; exact Am.all (Am.next (by assumption) hb1)) | go_keep)
      (first | (go_at_call 53; go_split_ands; refine (hda.out _).mono ?_; rintro e w6 ⟨rfl, hb1⟩; have hA1 := Lib.hid (Am.next (by assumption) hb1); obtain ⟨z0, z1, z2, l0, l1, l2, f0, f1, f2⟩ := hA1.out.slots))
    go_wp2_with fail
    refine bodyPost_ret (v := .tuple #[.agg #[.int .i64 (y + (t - 1)), .int .i64 (m + u + 12), .int .i64 (dm c (y + (t - 1)) (m + u + 12))], .int .i64 0]) (by simp [results, Try.results32, go_sem, l0, l1, l2]) rfl ⟨?_, ?_⟩
    · have E := Em.out; rw [EY.out, EM.out] at E ⊢; rw [← E]
    · exact (((hA1.out.put0 _).put1 _).put2 _).below
  · have Em := Lib.hid (show d = min d (dm c (y + (t - 1)) (m + u + 12)) by omega)
    go_wp2_with fail
    clear bd_c0 bd_c1 bd_c2
    go_region_held3 (fun w' => Am w.heap.size w2.heap.size m0 m1 m2 m3 m4 m5 m6 m7 m8 m9 m10 m11 f y m d w w' ∧ (w'.cell? ⟨w2.heap.size, 0, none⟩ = some (.int .i64 m0) ∧ w'.cell? ⟨w2.heap.size, 1, none⟩ = some (.int .i64 m1) ∧ w'.cell? ⟨w2.heap.size, 2, none⟩ = some (.int .i64 m2) ∧ w'.cell? ⟨w2.heap.size, 3, none⟩ = some (.int .i64 m3) ∧ w'.cell? ⟨w2.heap.size, 4, none⟩ = some (.int .i64 m4) ∧ w'.cell? ⟨w2.heap.size, 5, none⟩ = some (.int .i64 m5) ∧ w'.cell? ⟨w2.heap.size, 6, none⟩ = some (.int .i64 m6) ∧ w'.cell? ⟨w2.heap.size, 7, none⟩ = some (.int .i64 m7) ∧ w'.cell? ⟨w2.heap.size, 8, none⟩ = some (.int .i64 m8) ∧ w'.cell? ⟨w2.heap.size, 9, none⟩ = some (.int .i64 m9) ∧ w'.cell? ⟨w2.heap.size, 10, none⟩ = some (.int .i64 m10) ∧ w'.cell? ⟨w2.heap.size, 11, none⟩ = some (.int .i64 m11) ∧ w'.cell? ⟨w2.heap.size, 12, none⟩ = some (.func (.func f) #[] #[])) ∧ (w'.cell? ⟨w.heap.size, 0, none⟩ = some (.int .i64 y) ∧ w'.cell? ⟨w.heap.size, 1, none⟩ = some (.int .i64 m) ∧ w'.cell? ⟨w.heap.size, 2, none⟩ = some (.int .i64 d)))
      (first | exact Am.all (Am.put2 (Am.put1 (Am.put0 hA1.out _) _) _) | exact Am.all (Am.drew hA.out) | exact Am.all hA.out | (go_split_ands; exact Am.all (Am.next (by assumption) hb1)) | go_keep)
      (first | (go_at_call 53; go_split_ands; refine (hda.out _).mono ?_; rintro e w6 ⟨rfl, hb1⟩; have hA1 := Lib.hid (Am.next (by assumption) hb1); obtain ⟨z0, z1, z2, l0, l1, l2, f0, f1, f2⟩ := hA1.out.slots))
    go_wp2_with fail
    refine bodyPost_ret (v := .tuple #[.agg #[.int .i64 (y + (t - 1)), .int .i64 (m + u + 12), .int .i64 (d)], .int .i64 0]) (by simp [results, Try.results32, go_sem, l0, l1, l2]) rfl ⟨?_, ?_⟩
    · have E := Em.out; rw [EY.out, EM.out] at E ⊢; rw [← E]
    · exact (((hA1.out.put0 _).put1 _).put2 _).below

set_option maxRecDepth 100000 in
set_option maxHeartbeats 3200000 in
theorem am_b_no (c y m d n : Int) (w : World) (h : isCal c) (v1 : Hid (ok c y m d = true)) (t1 : decide (n < -240000) = false) (t2 : decide (240000 < n) = false) (n0 : -240000 ≤ n) (n1 : n ≤ 240000) (y0 : -9999 ≤ y) (y1 : y ≤ 9999) (k0 : 1 ≤ m) (k1 : m ≤ 12) (t3 : 12 < m + n.tmod 12) (hR : ¬ (-9999 ≤ amY y m n ∧ amY y m n ≤ 9999)) : Calls Try.prog 32 #[.int .i64 c, .agg #[.int .i64 y, .int .i64 m, .int .i64 d], .int .i64 n] w fun e w' => e = .returned (.tuple #[.agg #[.int .i64 0, .int .i64 0, .int .i64 0], .int .i64 21]) ∧ Below w.heap.size w w' := by
  have h1 := Lib.hid (fun W => rulesOf_ok c W h)
  clear h
  have HB := Lib.hid (Below.refl w.heap.size w)
  have bd := Lib.hid (Bk.newAt w #[.int .i64 y, .int .i64 m, .int .i64 d] 28 (w.heap.size) (by simp))
  have HB := Lib.hid (kept_more (o := (.cells #[.int .i64 y, .int .i64 m, .int .i64 d] 28)) HB.out)
  have bd := Lib.hid (bd.out.more (.cells #[.int .i64 0, .int .i64 0, .int .i64 0] 28))
  have br := Lib.hid (Bk.newAt (w.alloc (.cells #[.int .i64 y, .int .i64 m, .int .i64 d] 28)) #[.int .i64 0, .int .i64 0, .int .i64 0] 28 (w.heap.size + 1) (by simp))
  have HB := Lib.hid (kept_more (o := (.cells #[.int .i64 0, .int .i64 0, .int .i64 0] 28)) HB.out)
  go_enter Try.func32, Try.ntmps32
  go_wp2_with fail
  refine (h1.out _).mono ?_
  rintro e w2 ⟨r, rfl, hr, hb⟩
  have Hlt := Lib.hid (br.out.next hb).lt
  obtain ⟨m0, m1, m2, m3, m4, m5, m6, m7, m8, m9, m10, m11, f, rfl⟩ := hr.form
  have Hr := Lib.hid hr
  clear hr
  have bd := Lib.hid (bd.out.next hb)
  have br := Lib.hid (br.out.next hb)
  have HB := Lib.hid (bel_next HB.out hb)
  clear hb
  have bd := Lib.hid (bd.out.more (.cells #[.int .i64 m0, .int .i64 m1, .int .i64 m2, .int .i64 m3, .int .i64 m4, .int .i64 m5, .int .i64 m6, .int .i64 m7, .int .i64 m8, .int .i64 m9, .int .i64 m10, .int .i64 m11, .func (.func f) #[] #[]] 68))
  have br := Lib.hid (br.out.more (.cells #[.int .i64 m0, .int .i64 m1, .int .i64 m2, .int .i64 m3, .int .i64 m4, .int .i64 m5, .int .i64 m6, .int .i64 m7, .int .i64 m8, .int .i64 m9, .int .i64 m10, .int .i64 m11, .func (.func f) #[] #[]] 68))
  have r1 := Lib.hid (Bk.newAt w2 #[.int .i64 m0, .int .i64 m1, .int .i64 m2, .int .i64 m3, .int .i64 m4, .int .i64 m5, .int .i64 m6, .int .i64 m7, .int .i64 m8, .int .i64 m9, .int .i64 m10, .int .i64 m11, .func (.func f) #[] #[]] 68 (w2.heap.size) (by simp))
  have HB := Lib.hid (kept_more (o := (.cells #[.int .i64 m0, .int .i64 m1, .int .i64 m2, .int .i64 m3, .int .i64 m4, .int .i64 m5, .int .i64 m6, .int .i64 m7, .int .i64 m8, .int .i64 m9, .int .i64 m10, .int .i64 m11, .func (.func f) #[] #[]] 68)) HB.out)
  have r1_c0 := r1.out.cell 0
  have r1_c1 := r1.out.cell 1
  have r1_c2 := r1.out.cell 2
  have r1_c3 := r1.out.cell 3
  have r1_c4 := r1.out.cell 4
  have r1_c5 := r1.out.cell 5
  have r1_c6 := r1.out.cell 6
  have r1_c7 := r1.out.cell 7
  have r1_c8 := r1.out.cell 8
  have r1_c9 := r1.out.cell 9
  have r1_c10 := r1.out.cell 10
  have r1_c11 := r1.out.cell 11
  have r1_c12 := r1.out.cell 12
  have bd_c0 := bd.out.cell 0
  have bd_c1 := bd.out.cell 1
  have bd_c2 := bd.out.cell 2
  have hv1 := Lib.hid (fun W => valid_any _ c y m d W Hr.out)
  rw [v1.out] at hv1
  go_wp2_with fail
  refine (hv1.out _).mono ?_
  rintro e w3 ⟨rfl, hb⟩
  have bd := Lib.hid (bd.out.next hb)
  have br := Lib.hid (br.out.next hb)
  have r1 := Lib.hid (r1.out.next hb)
  have HB := Lib.hid (bel_next HB.out hb)
  clear r1_c0 r1_c1 r1_c2 r1_c3 r1_c4 r1_c5 r1_c6 r1_c7 r1_c8 r1_c9 r1_c10 r1_c11 r1_c12 bd_c0 bd_c1 bd_c2
  clear hb
  have bd_c0 := bd.out.cell 0
  have bd_c1 := bd.out.cell 1
  have bd_c2 := bd.out.cell 2
  obtain ⟨hq, hu0, hu1⟩ := tdiv12 n
  have Hq := Lib.hid hq
  have HR := Lib.hid hR
  clear hq hR
  have s1 : IntKind.i64.wrap (m + n.tmod 12) = m + n.tmod 12 := IntWalk.i64_in _ (by omega)
  go_wp2_with fail
  go_quiet (fail)
  clear s1 bd_c0 bd_c1 bd_c2
  have hb := below_drewN (Below.refl w3.heap.size w3) nq
  generalize w3.drewN nq = w4 at *
  have bd := Lib.hid (bd.out.next hb)
  have br := Lib.hid (br.out.next hb)
  have r1 := Lib.hid (r1.out.next hb)
  have hlt0 := Lib.hid (show w.heap.size + 1 < w2.heap.size from Hlt.out)
  have HB := Lib.hid (bel_next HB.out hb)
  clear hb
  have bd_c0 := bd.out.cell 0
  have bd_c1 := bd.out.cell 1
  have bd_c2 := bd.out.cell 2
  have Ht := Lib.hid (Int.le_of_lt_add_one (show n.tdiv 12 < 40000 + 1 by have := Hq.out; omega))
  have Hs := Lib.hid (Int.le_of_lt_add_one (show -40000 < n.tdiv 12 + 1 by have := Hq.out; omega))
  generalize n.tdiv 12 = t at *
  generalize n.tmod 12 = u at *
  have ht := Ht.out
  have hs := Hs.out
  have he := am_eq (y := y) (m := m) (n := n) (a := (t + 1)) (b := (m + u - 12)) (by have := Hq.out; omega) (by omega) (by omega)
  obtain ⟨eY, eM⟩ := he
  have EY := Lib.hid eY
  have EM := Lib.hid eM
  clear eY eM
  have hy := Lib.hid (fun W => isYear_no (y + (t + 1)) W (by rw [EY.out]; exact HR.out))
  go_wp2_with fail
  refine (hy.out _).mono ?_
  rintro e w5 ⟨rfl, rfl⟩
  clear bd_c0 bd_c1 bd_c2
  have br_c0 := br.out.cell 0
  have br_f0 := br.out.free 0
  have br_c1 := br.out.cell 1
  have br_f1 := br.out.free 1
  have br_c2 := br.out.cell 2
  have br_f2 := br.out.free 2
  go_wp2_with fail
  refine bodyPost_ret (v := .tuple #[.agg #[.int .i64 0, .int .i64 0, .int .i64 0], .int .i64 21]) (by simp [results, Try.results32, go_sem, br_c0, br_c1, br_c2]) rfl ⟨rfl, ?_⟩
  exact ((HB.out.setCell (by show w.heap.size ≤ w.heap.size + 1; omega) _).setCell (by show w.heap.size ≤ w.heap.size + 1; omega) _).setCell (by show w.heap.size ≤ w.heap.size + 1; omega) _

set_option maxRecDepth 100000 in
set_option maxHeartbeats 3200000 in
theorem am_b_yes (c y m d n : Int) (w : World) (h : isCal c) (v1 : Hid (ok c y m d = true)) (t1 : decide (n < -240000) = false) (t2 : decide (240000 < n) = false) (n0 : -240000 ≤ n) (n1 : n ≤ 240000) (y0 : -9999 ≤ y) (y1 : y ≤ 9999) (k0 : 1 ≤ m) (k1 : m ≤ 12) (t3 : 12 < m + n.tmod 12) (hR : -9999 ≤ amY y m n ∧ amY y m n ≤ 9999) : Calls Try.prog 32 #[.int .i64 c, .agg #[.int .i64 y, .int .i64 m, .int .i64 d], .int .i64 n] w fun e w' => e = .returned (.tuple #[.agg #[.int .i64 (amY y m n), .int .i64 (amM y m n), .int .i64 (min d (dm c (amY y m n) (amM y m n)))], .int .i64 0]) ∧ Below w.heap.size w w' := by
  have h1 := Lib.hid (fun W => rulesOf_ok c W h)
  clear h
  have HB := Lib.hid (Below.refl w.heap.size w)
  have bd := Lib.hid (Bk.newAt w #[.int .i64 y, .int .i64 m, .int .i64 d] 28 (w.heap.size) (by simp))
  have HB := Lib.hid (kept_more (o := (.cells #[.int .i64 y, .int .i64 m, .int .i64 d] 28)) HB.out)
  have bd := Lib.hid (bd.out.more (.cells #[.int .i64 0, .int .i64 0, .int .i64 0] 28))
  have br := Lib.hid (Bk.newAt (w.alloc (.cells #[.int .i64 y, .int .i64 m, .int .i64 d] 28)) #[.int .i64 0, .int .i64 0, .int .i64 0] 28 (w.heap.size + 1) (by simp))
  have HB := Lib.hid (kept_more (o := (.cells #[.int .i64 0, .int .i64 0, .int .i64 0] 28)) HB.out)
  go_enter Try.func32, Try.ntmps32
  go_wp2_with fail
  refine (h1.out _).mono ?_
  rintro e w2 ⟨r, rfl, hr, hb⟩
  have Hlt := Lib.hid (br.out.next hb).lt
  obtain ⟨m0, m1, m2, m3, m4, m5, m6, m7, m8, m9, m10, m11, f, rfl⟩ := hr.form
  have Hr := Lib.hid hr
  clear hr
  have bd := Lib.hid (bd.out.next hb)
  have br := Lib.hid (br.out.next hb)
  have HB := Lib.hid (bel_next HB.out hb)
  clear hb
  have bd := Lib.hid (bd.out.more (.cells #[.int .i64 m0, .int .i64 m1, .int .i64 m2, .int .i64 m3, .int .i64 m4, .int .i64 m5, .int .i64 m6, .int .i64 m7, .int .i64 m8, .int .i64 m9, .int .i64 m10, .int .i64 m11, .func (.func f) #[] #[]] 68))
  have br := Lib.hid (br.out.more (.cells #[.int .i64 m0, .int .i64 m1, .int .i64 m2, .int .i64 m3, .int .i64 m4, .int .i64 m5, .int .i64 m6, .int .i64 m7, .int .i64 m8, .int .i64 m9, .int .i64 m10, .int .i64 m11, .func (.func f) #[] #[]] 68))
  have r1 := Lib.hid (Bk.newAt w2 #[.int .i64 m0, .int .i64 m1, .int .i64 m2, .int .i64 m3, .int .i64 m4, .int .i64 m5, .int .i64 m6, .int .i64 m7, .int .i64 m8, .int .i64 m9, .int .i64 m10, .int .i64 m11, .func (.func f) #[] #[]] 68 (w2.heap.size) (by simp))
  have HB := Lib.hid (kept_more (o := (.cells #[.int .i64 m0, .int .i64 m1, .int .i64 m2, .int .i64 m3, .int .i64 m4, .int .i64 m5, .int .i64 m6, .int .i64 m7, .int .i64 m8, .int .i64 m9, .int .i64 m10, .int .i64 m11, .func (.func f) #[] #[]] 68)) HB.out)
  have r1_c0 := r1.out.cell 0
  have r1_c1 := r1.out.cell 1
  have r1_c2 := r1.out.cell 2
  have r1_c3 := r1.out.cell 3
  have r1_c4 := r1.out.cell 4
  have r1_c5 := r1.out.cell 5
  have r1_c6 := r1.out.cell 6
  have r1_c7 := r1.out.cell 7
  have r1_c8 := r1.out.cell 8
  have r1_c9 := r1.out.cell 9
  have r1_c10 := r1.out.cell 10
  have r1_c11 := r1.out.cell 11
  have r1_c12 := r1.out.cell 12
  have bd_c0 := bd.out.cell 0
  have bd_c1 := bd.out.cell 1
  have bd_c2 := bd.out.cell 2
  have hv1 := Lib.hid (fun W => valid_any _ c y m d W Hr.out)
  rw [v1.out] at hv1
  go_wp2_with fail
  refine (hv1.out _).mono ?_
  rintro e w3 ⟨rfl, hb⟩
  have bd := Lib.hid (bd.out.next hb)
  have br := Lib.hid (br.out.next hb)
  have r1 := Lib.hid (r1.out.next hb)
  have HB := Lib.hid (bel_next HB.out hb)
  clear r1_c0 r1_c1 r1_c2 r1_c3 r1_c4 r1_c5 r1_c6 r1_c7 r1_c8 r1_c9 r1_c10 r1_c11 r1_c12 bd_c0 bd_c1 bd_c2
  clear hb
  have bd_c0 := bd.out.cell 0
  have bd_c1 := bd.out.cell 1
  have bd_c2 := bd.out.cell 2
  obtain ⟨hq, hu0, hu1⟩ := tdiv12 n
  have Hq := Lib.hid hq
  have HR := Lib.hid hR
  clear hq hR
  have s1 : IntKind.i64.wrap (m + n.tmod 12) = m + n.tmod 12 := IntWalk.i64_in _ (by omega)
  go_wp2_with fail
  go_quiet (fail)
  clear s1 bd_c0 bd_c1 bd_c2
  have hb := below_drewN (Below.refl w3.heap.size w3) nq
  generalize w3.drewN nq = w4 at *
  have bd := Lib.hid (bd.out.next hb)
  have br := Lib.hid (br.out.next hb)
  have r1 := Lib.hid (r1.out.next hb)
  have hlt0 := Lib.hid (show w.heap.size + 1 < w2.heap.size from Hlt.out)
  have HB := Lib.hid (bel_next HB.out hb)
  clear hb
  have bd_c0 := bd.out.cell 0
  have bd_c1 := bd.out.cell 1
  have bd_c2 := bd.out.cell 2
  have Ht := Lib.hid (Int.le_of_lt_add_one (show n.tdiv 12 < 40000 + 1 by have := Hq.out; omega))
  have Hs := Lib.hid (Int.le_of_lt_add_one (show -40000 < n.tdiv 12 + 1 by have := Hq.out; omega))
  generalize n.tdiv 12 = t at *
  generalize n.tmod 12 = u at *
  have ht := Ht.out
  have hs := Hs.out
  have he := am_eq (y := y) (m := m) (n := n) (a := (t + 1)) (b := (m + u - 12)) (by have := Hq.out; omega) (by omega) (by omega)
  obtain ⟨eY, eM⟩ := he
  have EY := Lib.hid eY
  have EM := Lib.hid eM
  clear eY eM
  have hr0 := HR.out.1
  have hr1 := HR.out.2
  rw [← EY.out] at hr0 hr1
  have hy := Lib.hid (fun W => isYear_yes (y + (t + 1)) W hr0 hr1)
  have hda := Lib.hid (fun W => Hr.out.days (y + (t + 1)) (m + u - 12) W (by omega) (by omega) (by omega) (by omega))
  have hA := Lib.hid (show Am w.heap.size w2.heap.size m0 m1 m2 m3 m4 m5 m6 m7 m8 m9 m10 m11 f y m d w w4 from ⟨Nat.le_refl _, hlt0.out, HB.out, bd.out, r1.out, ⟨_, _, _, br.out⟩⟩)
  go_wp2_with fail
  refine (hy.out _).mono ?_
  rintro e w5 ⟨rfl, rfl⟩
  by_cases hmin : dm c (y + (t + 1)) (m + u - 12) < d
  · have Em := Lib.hid (show dm c (y + (t + 1)) (m + u - 12) = min d (dm c (y + (t + 1)) (m + u - 12)) by omega)
    go_wp2_with fail
    clear bd_c0 bd_c1 bd_c2
    go_region_held3 (fun w' => Am w.heap.size w2.heap.size m0 m1 m2 m3 m4 m5 m6 m7 m8 m9 m10 m11 f y m d w w' ∧ (w'.cell? ⟨w2.heap.size, 0, none⟩ = some (.int .i64 m0) ∧ w'.cell? ⟨w2.heap.size, 1, none⟩ = some (.int .i64 m1) ∧ w'.cell? ⟨w2.heap.size, 2, none⟩ = some (.int .i64 m2) ∧ w'.cell? ⟨w2.heap.size, 3, none⟩ = some (.int .i64 m3) ∧ w'.cell? ⟨w2.heap.size, 4, none⟩ = some (.int .i64 m4) ∧ w'.cell? ⟨w2.heap.size, 5, none⟩ = some (.int .i64 m5) ∧ w'.cell? ⟨w2.heap.size, 6, none⟩ = some (.int .i64 m6) ∧ w'.cell? ⟨w2.heap.size, 7, none⟩ = some (.int .i64 m7) ∧ w'.cell? ⟨w2.heap.size, 8, none⟩ = some (.int .i64 m8) ∧ w'.cell? ⟨w2.heap.size, 9, none⟩ = some (.int .i64 m9) ∧ w'.cell? ⟨w2.heap.size, 10, none⟩ = some (.int .i64 m10) ∧ w'.cell? ⟨w2.heap.size, 11, none⟩ = some (.int .i64 m11) ∧ w'.cell? ⟨w2.heap.size, 12, none⟩ = some (.func (.func f) #[] #[])) ∧ (w'.cell? ⟨w.heap.size, 0, none⟩ = some (.int .i64 y) ∧ w'.cell? ⟨w.heap.size, 1, none⟩ = some (.int .i64 m) ∧ w'.cell? ⟨w.heap.size, 2, none⟩ = some (.int .i64 d)))
      (first | exact Am.all (Am.put2 (Am.put1 (Am.put0 hA1.out _) _) _) | exact Am.all (Am.drew hA.out) | exact Am.all hA.out | (go_split_ands; exact Am.all (Am.next (by assumption) hb1)) | go_keep)
      (first | (go_at_call 53; go_split_ands; refine (hda.out _).mono ?_; rintro e w6 ⟨rfl, hb1⟩; have hA1 := Lib.hid (Am.next (by assumption) hb1); obtain ⟨z0, z1, z2, l0, l1, l2, f0, f1, f2⟩ := hA1.out.slots))
    go_wp2_with fail
    refine bodyPost_ret (v := .tuple #[.agg #[.int .i64 (y + (t + 1)), .int .i64 (m + u - 12), .int .i64 (dm c (y + (t + 1)) (m + u - 12))], .int .i64 0]) (by simp [results, Try.results32, go_sem, l0, l1, l2]) rfl ⟨?_, ?_⟩
    · have E := Em.out; rw [EY.out, EM.out] at E ⊢; rw [← E]
    · exact (((hA1.out.put0 _).put1 _).put2 _).below
  · have Em := Lib.hid (show d = min d (dm c (y + (t + 1)) (m + u - 12)) by omega)
    go_wp2_with fail
    clear bd_c0 bd_c1 bd_c2
    go_region_held3 (fun w' => Am w.heap.size w2.heap.size m0 m1 m2 m3 m4 m5 m6 m7 m8 m9 m10 m11 f y m d w w' ∧ (w'.cell? ⟨w2.heap.size, 0, none⟩ = some (.int .i64 m0) ∧ w'.cell? ⟨w2.heap.size, 1, none⟩ = some (.int .i64 m1) ∧ w'.cell? ⟨w2.heap.size, 2, none⟩ = some (.int .i64 m2) ∧ w'.cell? ⟨w2.heap.size, 3, none⟩ = some (.int .i64 m3) ∧ w'.cell? ⟨w2.heap.size, 4, none⟩ = some (.int .i64 m4) ∧ w'.cell? ⟨w2.heap.size, 5, none⟩ = some (.int .i64 m5) ∧ w'.cell? ⟨w2.heap.size, 6, none⟩ = some (.int .i64 m6) ∧ w'.cell? ⟨w2.heap.size, 7, none⟩ = some (.int .i64 m7) ∧ w'.cell? ⟨w2.heap.size, 8, none⟩ = some (.int .i64 m8) ∧ w'.cell? ⟨w2.heap.size, 9, none⟩ = some (.int .i64 m9) ∧ w'.cell? ⟨w2.heap.size, 10, none⟩ = some (.int .i64 m10) ∧ w'.cell? ⟨w2.heap.size, 11, none⟩ = some (.int .i64 m11) ∧ w'.cell? ⟨w2.heap.size, 12, none⟩ = some (.func (.func f) #[] #[])) ∧ (w'.cell? ⟨w.heap.size, 0, none⟩ = some (.int .i64 y) ∧ w'.cell? ⟨w.heap.size, 1, none⟩ = some (.int .i64 m) ∧ w'.cell? ⟨w.heap.size, 2, none⟩ = some (.int .i64 d)))
      (first | exact Am.all (Am.put2 (Am.put1 (Am.put0 hA1.out _) _) _) | exact Am.all (Am.drew hA.out) | exact Am.all hA.out | (go_split_ands; exact Am.all (Am.next (by assumption) hb1)) | go_keep)
      (first | (go_at_call 53; go_split_ands; refine (hda.out _).mono ?_; rintro e w6 ⟨rfl, hb1⟩; have hA1 := Lib.hid (Am.next (by assumption) hb1); obtain ⟨z0, z1, z2, l0, l1, l2, f0, f1, f2⟩ := hA1.out.slots))
    go_wp2_with fail
    refine bodyPost_ret (v := .tuple #[.agg #[.int .i64 (y + (t + 1)), .int .i64 (m + u - 12), .int .i64 (d)], .int .i64 0]) (by simp [results, Try.results32, go_sem, l0, l1, l2]) rfl ⟨?_, ?_⟩
    · have E := Em.out; rw [EY.out, EM.out] at E ⊢; rw [← E]
    · exact (((hA1.out.put0 _).put1 _).put2 _).below

set_option maxRecDepth 100000 in
set_option maxHeartbeats 3200000 in
theorem am_c_no (c y m d n : Int) (w : World) (h : isCal c) (v1 : Hid (ok c y m d = true)) (t1 : decide (n < -240000) = false) (t2 : decide (240000 < n) = false) (n0 : -240000 ≤ n) (n1 : n ≤ 240000) (y0 : -9999 ≤ y) (y1 : y ≤ 9999) (k0 : 1 ≤ m) (k1 : m ≤ 12) (t3 : 1 ≤ m + n.tmod 12) (t4 : m + n.tmod 12 ≤ 12) (hR : ¬ (-9999 ≤ amY y m n ∧ amY y m n ≤ 9999)) : Calls Try.prog 32 #[.int .i64 c, .agg #[.int .i64 y, .int .i64 m, .int .i64 d], .int .i64 n] w fun e w' => e = .returned (.tuple #[.agg #[.int .i64 0, .int .i64 0, .int .i64 0], .int .i64 21]) ∧ Below w.heap.size w w' := by
  have h1 := Lib.hid (fun W => rulesOf_ok c W h)
  clear h
  have HB := Lib.hid (Below.refl w.heap.size w)
  have bd := Lib.hid (Bk.newAt w #[.int .i64 y, .int .i64 m, .int .i64 d] 28 (w.heap.size) (by simp))
  have HB := Lib.hid (kept_more (o := (.cells #[.int .i64 y, .int .i64 m, .int .i64 d] 28)) HB.out)
  have bd := Lib.hid (bd.out.more (.cells #[.int .i64 0, .int .i64 0, .int .i64 0] 28))
  have br := Lib.hid (Bk.newAt (w.alloc (.cells #[.int .i64 y, .int .i64 m, .int .i64 d] 28)) #[.int .i64 0, .int .i64 0, .int .i64 0] 28 (w.heap.size + 1) (by simp))
  have HB := Lib.hid (kept_more (o := (.cells #[.int .i64 0, .int .i64 0, .int .i64 0] 28)) HB.out)
  go_enter Try.func32, Try.ntmps32
  go_wp2_with fail
  refine (h1.out _).mono ?_
  rintro e w2 ⟨r, rfl, hr, hb⟩
  have Hlt := Lib.hid (br.out.next hb).lt
  obtain ⟨m0, m1, m2, m3, m4, m5, m6, m7, m8, m9, m10, m11, f, rfl⟩ := hr.form
  have Hr := Lib.hid hr
  clear hr
  have bd := Lib.hid (bd.out.next hb)
  have br := Lib.hid (br.out.next hb)
  have HB := Lib.hid (bel_next HB.out hb)
  clear hb
  have bd := Lib.hid (bd.out.more (.cells #[.int .i64 m0, .int .i64 m1, .int .i64 m2, .int .i64 m3, .int .i64 m4, .int .i64 m5, .int .i64 m6, .int .i64 m7, .int .i64 m8, .int .i64 m9, .int .i64 m10, .int .i64 m11, .func (.func f) #[] #[]] 68))
  have br := Lib.hid (br.out.more (.cells #[.int .i64 m0, .int .i64 m1, .int .i64 m2, .int .i64 m3, .int .i64 m4, .int .i64 m5, .int .i64 m6, .int .i64 m7, .int .i64 m8, .int .i64 m9, .int .i64 m10, .int .i64 m11, .func (.func f) #[] #[]] 68))
  have r1 := Lib.hid (Bk.newAt w2 #[.int .i64 m0, .int .i64 m1, .int .i64 m2, .int .i64 m3, .int .i64 m4, .int .i64 m5, .int .i64 m6, .int .i64 m7, .int .i64 m8, .int .i64 m9, .int .i64 m10, .int .i64 m11, .func (.func f) #[] #[]] 68 (w2.heap.size) (by simp))
  have HB := Lib.hid (kept_more (o := (.cells #[.int .i64 m0, .int .i64 m1, .int .i64 m2, .int .i64 m3, .int .i64 m4, .int .i64 m5, .int .i64 m6, .int .i64 m7, .int .i64 m8, .int .i64 m9, .int .i64 m10, .int .i64 m11, .func (.func f) #[] #[]] 68)) HB.out)
  have r1_c0 := r1.out.cell 0
  have r1_c1 := r1.out.cell 1
  have r1_c2 := r1.out.cell 2
  have r1_c3 := r1.out.cell 3
  have r1_c4 := r1.out.cell 4
  have r1_c5 := r1.out.cell 5
  have r1_c6 := r1.out.cell 6
  have r1_c7 := r1.out.cell 7
  have r1_c8 := r1.out.cell 8
  have r1_c9 := r1.out.cell 9
  have r1_c10 := r1.out.cell 10
  have r1_c11 := r1.out.cell 11
  have r1_c12 := r1.out.cell 12
  have bd_c0 := bd.out.cell 0
  have bd_c1 := bd.out.cell 1
  have bd_c2 := bd.out.cell 2
  have hv1 := Lib.hid (fun W => valid_any _ c y m d W Hr.out)
  rw [v1.out] at hv1
  go_wp2_with fail
  refine (hv1.out _).mono ?_
  rintro e w3 ⟨rfl, hb⟩
  have bd := Lib.hid (bd.out.next hb)
  have br := Lib.hid (br.out.next hb)
  have r1 := Lib.hid (r1.out.next hb)
  have HB := Lib.hid (bel_next HB.out hb)
  clear r1_c0 r1_c1 r1_c2 r1_c3 r1_c4 r1_c5 r1_c6 r1_c7 r1_c8 r1_c9 r1_c10 r1_c11 r1_c12 bd_c0 bd_c1 bd_c2
  clear hb
  have bd_c0 := bd.out.cell 0
  have bd_c1 := bd.out.cell 1
  have bd_c2 := bd.out.cell 2
  obtain ⟨hq, hu0, hu1⟩ := tdiv12 n
  have Hq := Lib.hid hq
  have HR := Lib.hid hR
  clear hq hR
  have s1 : IntKind.i64.wrap (m + n.tmod 12) = m + n.tmod 12 := IntWalk.i64_in _ (by omega)
  go_wp2_with fail
  go_quiet (fail)
  clear s1 bd_c0 bd_c1 bd_c2
  have hb := below_drewN (Below.refl w3.heap.size w3) nq
  generalize w3.drewN nq = w4 at *
  have bd := Lib.hid (bd.out.next hb)
  have br := Lib.hid (br.out.next hb)
  have r1 := Lib.hid (r1.out.next hb)
  have hlt0 := Lib.hid (show w.heap.size + 1 < w2.heap.size from Hlt.out)
  have HB := Lib.hid (bel_next HB.out hb)
  clear hb
  have bd_c0 := bd.out.cell 0
  have bd_c1 := bd.out.cell 1
  have bd_c2 := bd.out.cell 2
  have Ht := Lib.hid (Int.le_of_lt_add_one (show n.tdiv 12 < 40000 + 1 by have := Hq.out; omega))
  have Hs := Lib.hid (Int.le_of_lt_add_one (show -40000 < n.tdiv 12 + 1 by have := Hq.out; omega))
  generalize n.tdiv 12 = t at *
  generalize n.tmod 12 = u at *
  have ht := Ht.out
  have hs := Hs.out
  have he := am_eq (y := y) (m := m) (n := n) (a := t) (b := (m + u)) (by have := Hq.out; omega) (by omega) (by omega)
  obtain ⟨eY, eM⟩ := he
  have EY := Lib.hid eY
  have EM := Lib.hid eM
  clear eY eM
  have hy := Lib.hid (fun W => isYear_no (y + t) W (by rw [EY.out]; exact HR.out))
  go_wp2_with fail
  refine (hy.out _).mono ?_
  rintro e w5 ⟨rfl, rfl⟩
  clear bd_c0 bd_c1 bd_c2
  have br_c0 := br.out.cell 0
  have br_f0 := br.out.free 0
  have br_c1 := br.out.cell 1
  have br_f1 := br.out.free 1
  have br_c2 := br.out.cell 2
  have br_f2 := br.out.free 2
  go_wp2_with fail
  refine bodyPost_ret (v := .tuple #[.agg #[.int .i64 0, .int .i64 0, .int .i64 0], .int .i64 21]) (by simp [results, Try.results32, go_sem, br_c0, br_c1, br_c2]) rfl ⟨rfl, ?_⟩
  exact ((HB.out.setCell (by show w.heap.size ≤ w.heap.size + 1; omega) _).setCell (by show w.heap.size ≤ w.heap.size + 1; omega) _).setCell (by show w.heap.size ≤ w.heap.size + 1; omega) _

set_option maxRecDepth 100000 in
set_option maxHeartbeats 3200000 in
theorem am_c_yes (c y m d n : Int) (w : World) (h : isCal c) (v1 : Hid (ok c y m d = true)) (t1 : decide (n < -240000) = false) (t2 : decide (240000 < n) = false) (n0 : -240000 ≤ n) (n1 : n ≤ 240000) (y0 : -9999 ≤ y) (y1 : y ≤ 9999) (k0 : 1 ≤ m) (k1 : m ≤ 12) (t3 : 1 ≤ m + n.tmod 12) (t4 : m + n.tmod 12 ≤ 12) (hR : -9999 ≤ amY y m n ∧ amY y m n ≤ 9999) : Calls Try.prog 32 #[.int .i64 c, .agg #[.int .i64 y, .int .i64 m, .int .i64 d], .int .i64 n] w fun e w' => e = .returned (.tuple #[.agg #[.int .i64 (amY y m n), .int .i64 (amM y m n), .int .i64 (min d (dm c (amY y m n) (amM y m n)))], .int .i64 0]) ∧ Below w.heap.size w w' := by
  have h1 := Lib.hid (fun W => rulesOf_ok c W h)
  clear h
  have HB := Lib.hid (Below.refl w.heap.size w)
  have bd := Lib.hid (Bk.newAt w #[.int .i64 y, .int .i64 m, .int .i64 d] 28 (w.heap.size) (by simp))
  have HB := Lib.hid (kept_more (o := (.cells #[.int .i64 y, .int .i64 m, .int .i64 d] 28)) HB.out)
  have bd := Lib.hid (bd.out.more (.cells #[.int .i64 0, .int .i64 0, .int .i64 0] 28))
  have br := Lib.hid (Bk.newAt (w.alloc (.cells #[.int .i64 y, .int .i64 m, .int .i64 d] 28)) #[.int .i64 0, .int .i64 0, .int .i64 0] 28 (w.heap.size + 1) (by simp))
  have HB := Lib.hid (kept_more (o := (.cells #[.int .i64 0, .int .i64 0, .int .i64 0] 28)) HB.out)
  go_enter Try.func32, Try.ntmps32
  go_wp2_with fail
  refine (h1.out _).mono ?_
  rintro e w2 ⟨r, rfl, hr, hb⟩
  have Hlt := Lib.hid (br.out.next hb).lt
  obtain ⟨m0, m1, m2, m3, m4, m5, m6, m7, m8, m9, m10, m11, f, rfl⟩ := hr.form
  have Hr := Lib.hid hr
  clear hr
  have bd := Lib.hid (bd.out.next hb)
  have br := Lib.hid (br.out.next hb)
  have HB := Lib.hid (bel_next HB.out hb)
  clear hb
  have bd := Lib.hid (bd.out.more (.cells #[.int .i64 m0, .int .i64 m1, .int .i64 m2, .int .i64 m3, .int .i64 m4, .int .i64 m5, .int .i64 m6, .int .i64 m7, .int .i64 m8, .int .i64 m9, .int .i64 m10, .int .i64 m11, .func (.func f) #[] #[]] 68))
  have br := Lib.hid (br.out.more (.cells #[.int .i64 m0, .int .i64 m1, .int .i64 m2, .int .i64 m3, .int .i64 m4, .int .i64 m5, .int .i64 m6, .int .i64 m7, .int .i64 m8, .int .i64 m9, .int .i64 m10, .int .i64 m11, .func (.func f) #[] #[]] 68))
  have r1 := Lib.hid (Bk.newAt w2 #[.int .i64 m0, .int .i64 m1, .int .i64 m2, .int .i64 m3, .int .i64 m4, .int .i64 m5, .int .i64 m6, .int .i64 m7, .int .i64 m8, .int .i64 m9, .int .i64 m10, .int .i64 m11, .func (.func f) #[] #[]] 68 (w2.heap.size) (by simp))
  have HB := Lib.hid (kept_more (o := (.cells #[.int .i64 m0, .int .i64 m1, .int .i64 m2, .int .i64 m3, .int .i64 m4, .int .i64 m5, .int .i64 m6, .int .i64 m7, .int .i64 m8, .int .i64 m9, .int .i64 m10, .int .i64 m11, .func (.func f) #[] #[]] 68)) HB.out)
  have r1_c0 := r1.out.cell 0
  have r1_c1 := r1.out.cell 1
  have r1_c2 := r1.out.cell 2
  have r1_c3 := r1.out.cell 3
  have r1_c4 := r1.out.cell 4
  have r1_c5 := r1.out.cell 5
  have r1_c6 := r1.out.cell 6
  have r1_c7 := r1.out.cell 7
  have r1_c8 := r1.out.cell 8
  have r1_c9 := r1.out.cell 9
  have r1_c10 := r1.out.cell 10
  have r1_c11 := r1.out.cell 11
  have r1_c12 := r1.out.cell 12
  have bd_c0 := bd.out.cell 0
  have bd_c1 := bd.out.cell 1
  have bd_c2 := bd.out.cell 2
  have hv1 := Lib.hid (fun W => valid_any _ c y m d W Hr.out)
  rw [v1.out] at hv1
  go_wp2_with fail
  refine (hv1.out _).mono ?_
  rintro e w3 ⟨rfl, hb⟩
  have bd := Lib.hid (bd.out.next hb)
  have br := Lib.hid (br.out.next hb)
  have r1 := Lib.hid (r1.out.next hb)
  have HB := Lib.hid (bel_next HB.out hb)
  clear r1_c0 r1_c1 r1_c2 r1_c3 r1_c4 r1_c5 r1_c6 r1_c7 r1_c8 r1_c9 r1_c10 r1_c11 r1_c12 bd_c0 bd_c1 bd_c2
  clear hb
  have bd_c0 := bd.out.cell 0
  have bd_c1 := bd.out.cell 1
  have bd_c2 := bd.out.cell 2
  obtain ⟨hq, hu0, hu1⟩ := tdiv12 n
  have Hq := Lib.hid hq
  have HR := Lib.hid hR
  clear hq hR
  have s1 : IntKind.i64.wrap (m + n.tmod 12) = m + n.tmod 12 := IntWalk.i64_in _ (by omega)
  go_wp2_with fail
  go_quiet (fail)
  clear s1 bd_c0 bd_c1 bd_c2
  have hb := below_drewN (Below.refl w3.heap.size w3) nq
  generalize w3.drewN nq = w4 at *
  have bd := Lib.hid (bd.out.next hb)
  have br := Lib.hid (br.out.next hb)
  have r1 := Lib.hid (r1.out.next hb)
  have hlt0 := Lib.hid (show w.heap.size + 1 < w2.heap.size from Hlt.out)
  have HB := Lib.hid (bel_next HB.out hb)
  clear hb
  have bd_c0 := bd.out.cell 0
  have bd_c1 := bd.out.cell 1
  have bd_c2 := bd.out.cell 2
  have Ht := Lib.hid (Int.le_of_lt_add_one (show n.tdiv 12 < 40000 + 1 by have := Hq.out; omega))
  have Hs := Lib.hid (Int.le_of_lt_add_one (show -40000 < n.tdiv 12 + 1 by have := Hq.out; omega))
  generalize n.tdiv 12 = t at *
  generalize n.tmod 12 = u at *
  have ht := Ht.out
  have hs := Hs.out
  have he := am_eq (y := y) (m := m) (n := n) (a := t) (b := (m + u)) (by have := Hq.out; omega) (by omega) (by omega)
  obtain ⟨eY, eM⟩ := he
  have EY := Lib.hid eY
  have EM := Lib.hid eM
  clear eY eM
  have hr0 := HR.out.1
  have hr1 := HR.out.2
  rw [← EY.out] at hr0 hr1
  have hy := Lib.hid (fun W => isYear_yes (y + t) W hr0 hr1)
  have hda := Lib.hid (fun W => Hr.out.days (y + t) (m + u) W (by omega) (by omega) (by omega) (by omega))
  have hA := Lib.hid (show Am w.heap.size w2.heap.size m0 m1 m2 m3 m4 m5 m6 m7 m8 m9 m10 m11 f y m d w w4 from ⟨Nat.le_refl _, hlt0.out, HB.out, bd.out, r1.out, ⟨_, _, _, br.out⟩⟩)
  go_wp2_with fail
  refine (hy.out _).mono ?_
  rintro e w5 ⟨rfl, rfl⟩
  by_cases hmin : dm c (y + t) (m + u) < d
  · have Em := Lib.hid (show dm c (y + t) (m + u) = min d (dm c (y + t) (m + u)) by omega)
    go_wp2_with fail
    clear bd_c0 bd_c1 bd_c2
    go_region_held3 (fun w' => Am w.heap.size w2.heap.size m0 m1 m2 m3 m4 m5 m6 m7 m8 m9 m10 m11 f y m d w w' ∧ (w'.cell? ⟨w2.heap.size, 0, none⟩ = some (.int .i64 m0) ∧ w'.cell? ⟨w2.heap.size, 1, none⟩ = some (.int .i64 m1) ∧ w'.cell? ⟨w2.heap.size, 2, none⟩ = some (.int .i64 m2) ∧ w'.cell? ⟨w2.heap.size, 3, none⟩ = some (.int .i64 m3) ∧ w'.cell? ⟨w2.heap.size, 4, none⟩ = some (.int .i64 m4) ∧ w'.cell? ⟨w2.heap.size, 5, none⟩ = some (.int .i64 m5) ∧ w'.cell? ⟨w2.heap.size, 6, none⟩ = some (.int .i64 m6) ∧ w'.cell? ⟨w2.heap.size, 7, none⟩ = some (.int .i64 m7) ∧ w'.cell? ⟨w2.heap.size, 8, none⟩ = some (.int .i64 m8) ∧ w'.cell? ⟨w2.heap.size, 9, none⟩ = some (.int .i64 m9) ∧ w'.cell? ⟨w2.heap.size, 10, none⟩ = some (.int .i64 m10) ∧ w'.cell? ⟨w2.heap.size, 11, none⟩ = some (.int .i64 m11) ∧ w'.cell? ⟨w2.heap.size, 12, none⟩ = some (.func (.func f) #[] #[])) ∧ (w'.cell? ⟨w.heap.size, 0, none⟩ = some (.int .i64 y) ∧ w'.cell? ⟨w.heap.size, 1, none⟩ = some (.int .i64 m) ∧ w'.cell? ⟨w.heap.size, 2, none⟩ = some (.int .i64 d)))
      (first | exact Am.all (Am.put2 (Am.put1 (Am.put0 hA1.out _) _) _) | exact Am.all (Am.drew hA.out) | exact Am.all hA.out | (go_split_ands; exact Am.all (Am.next (by assumption) hb1)) | go_keep)
      (first | (go_at_call 53; go_split_ands; refine (hda.out _).mono ?_; rintro e w6 ⟨rfl, hb1⟩; have hA1 := Lib.hid (Am.next (by assumption) hb1); obtain ⟨z0, z1, z2, l0, l1, l2, f0, f1, f2⟩ := hA1.out.slots))
    go_wp2_with fail
    refine bodyPost_ret (v := .tuple #[.agg #[.int .i64 (y + t), .int .i64 (m + u), .int .i64 (dm c (y + t) (m + u))], .int .i64 0]) (by simp [results, Try.results32, go_sem, l0, l1, l2]) rfl ⟨?_, ?_⟩
    · have E := Em.out; rw [EY.out, EM.out] at E ⊢; rw [← E]
    · exact (((hA1.out.put0 _).put1 _).put2 _).below
  · have Em := Lib.hid (show d = min d (dm c (y + t) (m + u)) by omega)
    go_wp2_with fail
    clear bd_c0 bd_c1 bd_c2
    go_region_held3 (fun w' => Am w.heap.size w2.heap.size m0 m1 m2 m3 m4 m5 m6 m7 m8 m9 m10 m11 f y m d w w' ∧ (w'.cell? ⟨w2.heap.size, 0, none⟩ = some (.int .i64 m0) ∧ w'.cell? ⟨w2.heap.size, 1, none⟩ = some (.int .i64 m1) ∧ w'.cell? ⟨w2.heap.size, 2, none⟩ = some (.int .i64 m2) ∧ w'.cell? ⟨w2.heap.size, 3, none⟩ = some (.int .i64 m3) ∧ w'.cell? ⟨w2.heap.size, 4, none⟩ = some (.int .i64 m4) ∧ w'.cell? ⟨w2.heap.size, 5, none⟩ = some (.int .i64 m5) ∧ w'.cell? ⟨w2.heap.size, 6, none⟩ = some (.int .i64 m6) ∧ w'.cell? ⟨w2.heap.size, 7, none⟩ = some (.int .i64 m7) ∧ w'.cell? ⟨w2.heap.size, 8, none⟩ = some (.int .i64 m8) ∧ w'.cell? ⟨w2.heap.size, 9, none⟩ = some (.int .i64 m9) ∧ w'.cell? ⟨w2.heap.size, 10, none⟩ = some (.int .i64 m10) ∧ w'.cell? ⟨w2.heap.size, 11, none⟩ = some (.int .i64 m11) ∧ w'.cell? ⟨w2.heap.size, 12, none⟩ = some (.func (.func f) #[] #[])) ∧ (w'.cell? ⟨w.heap.size, 0, none⟩ = some (.int .i64 y) ∧ w'.cell? ⟨w.heap.size, 1, none⟩ = some (.int .i64 m) ∧ w'.cell? ⟨w.heap.size, 2, none⟩ = some (.int .i64 d)))
      (first | exact Am.all (Am.put2 (Am.put1 (Am.put0 hA1.out _) _) _) | exact Am.all (Am.drew hA.out) | exact Am.all hA.out | (go_split_ands; exact Am.all (Am.next (by assumption) hb1)) | go_keep)
      (first | (go_at_call 53; go_split_ands; refine (hda.out _).mono ?_; rintro e w6 ⟨rfl, hb1⟩; have hA1 := Lib.hid (Am.next (by assumption) hb1); obtain ⟨z0, z1, z2, l0, l1, l2, f0, f1, f2⟩ := hA1.out.slots))
    go_wp2_with fail
    refine bodyPost_ret (v := .tuple #[.agg #[.int .i64 (y + t), .int .i64 (m + u), .int .i64 (d)], .int .i64 0]) (by simp [results, Try.results32, go_sem, l0, l1, l2]) rfl ⟨?_, ?_⟩
    · have E := Em.out; rw [EY.out, EM.out] at E ⊢; rw [← E]
    · exact (((hA1.out.put0 _).put1 _).put2 _).below
end Go.Proofs.Ythpeaeepcbbfcaa
