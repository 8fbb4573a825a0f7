/- AddMonths of the document; the law CalendarMonths. -/
import Derived.Test.YthpeaeepcbbfcaaAI
import Derived.Deep.RegionHeld3
namespace Go.Proofs.Ythpeaeepcbbfcaa
open Go.RowKit

/-- A date and a result's box. -/
structure Rm (B : Nat) (y m d : Int) (w0 W : World) : Prop where
  low : w0.heap.size ≤ B
  below : Below w0.heap.size w0 W
  bd : Bk W B #[.int .i64 y, .int .i64 m, .int .i64 d] 28
  br : ∃ c0 c1 c2, Bk W (B + 1) #[c0, c1, c2] 28
variable {B : Nat} {y m d : Int} {w0 W W' : World}
theorem Rm.drew (h : Rm B y m d w0 W) : Rm B y m d w0 W.drew := ⟨h.low, h.below.drew, h.bd, h.br⟩
theorem Rm.put0 (h : Rm B y m d w0 W) (v : Value) : Rm B y m d w0 (W.setCell ⟨B + 1, 0, none⟩ v) :=
  ⟨h.low, h.below.setCell (by show w0.heap.size ≤ B + 1; have := h.low; omega) _, h.bd.far (by omega) _, h.br.elim fun c0 k => k.elim fun c1 k => k.elim fun c2 k => ⟨v, c1, c2, heap_set' _ _ _ _ _ k⟩⟩
theorem Rm.put1 (h : Rm B y m d w0 W) (v : Value) : Rm B y m d w0 (W.setCell ⟨B + 1, 1, none⟩ v) :=
  ⟨h.low, h.below.setCell (by show w0.heap.size ≤ B + 1; have := h.low; omega) _, h.bd.far (by omega) _, h.br.elim fun c0 k => k.elim fun c1 k => k.elim fun c2 k => ⟨c0, v, c2, heap_set' _ _ _ _ _ k⟩⟩
theorem Rm.put2 (h : Rm B y m d w0 W) (v : Value) : Rm B y m d w0 (W.setCell ⟨B + 1, 2, none⟩ v) :=
  ⟨h.low, h.below.setCell (by show w0.heap.size ≤ B + 1; have := h.low; omega) _, h.bd.far (by omega) _, h.br.elim fun c0 k => k.elim fun c1 k => k.elim fun c2 k => ⟨c0, c1, v, heap_set' _ _ _ _ _ k⟩⟩
theorem Rm.all (h : Rm B y m d w0 W) : Rm B y m d w0 W ∧ W.cell? ⟨B, 0, none⟩ = some (.int .i64 y) ∧ W.cell? ⟨B, 1, none⟩ = some (.int .i64 m) ∧ W.cell? ⟨B, 2, none⟩ = some (.int .i64 d) :=
  ⟨h, h.bd.cell 0, h.bd.cell 1, h.bd.cell 2⟩
theorem Rm.slots (h : Rm B y m d w0 W) : ∃ c0 c1 c2, W.cell? ⟨B + 1, 0, none⟩ = some c0 ∧ W.cell? ⟨B + 1, 1, none⟩ = some c1 ∧ W.cell? ⟨B + 1, 2, none⟩ = some c2 ∧ W.frozen? ⟨B + 1, 0, none⟩ = false ∧ W.frozen? ⟨B + 1, 1, none⟩ = false ∧ W.frozen? ⟨B + 1, 2, none⟩ = false :=
  h.br.elim fun c0 k => k.elim fun c1 k => k.elim fun c2 k => ⟨c0, c1, c2, k.cell 0, k.cell 1, k.cell 2, k.free 0, k.free 1, k.free 2⟩

set_option maxRecDepth 100000 in
set_option maxHeartbeats 3200000 in
theorem ram_nocal (c y m d n : Int) (w : World) (h : ¬ isCal c) : Calls Try.prog 33 #[.int .i64 c, .agg #[.int .i64 y, .int .i64 m, .int .i64 d], .int .i64 n] w fun z w' => z = .returned (.tuple #[.agg #[.int .i64 0, .int .i64 0, .int .i64 0], .int .i64 20]) ∧ Below w.heap.size w w' := by
  have hn := Lib.hid (fun W => rname_no c W h)
  clear h
  have HB := Lib.hid (Below.refl w.heap.size w)
  have bd := Lib.hid (Bk.newAt w #[.int .i64 y, .int .i64 m, .int .i64 d] 28 (w.heap.size) (by simp))
  have HB := Lib.hid (kept_more (o := (.cells #[.int .i64 y, .int .i64 m, .int .i64 d] 28)) HB.out)
  have bd := Lib.hid (bd.out.more (.cells #[.int .i64 0, .int .i64 0, .int .i64 0] 28))
  have br := Lib.hid (Bk.newAt (w.alloc (.cells #[.int .i64 y, .int .i64 m, .int .i64 d] 28)) #[.int .i64 0, .int .i64 0, .int .i64 0] 28 (w.heap.size + 1) (by simp))
  have HB := Lib.hid (kept_more (o := (.cells #[.int .i64 0, .int .i64 0, .int .i64 0] 28)) HB.out)
  go_enter Try.func33, Try.ntmps33
  go_wp2_with fail
  refine (hn.out _).mono ?_
  rintro e w2 ⟨rfl, hb⟩
  have bd := Lib.hid (bd.out.next hb)
  have br := Lib.hid (br.out.next hb)
  have HB := Lib.hid (bel_next HB.out hb)
  clear hb
  have br_c0 := br.out.cell 0
  have br_f0 := br.out.free 0
  have br_c1 := br.out.cell 1
  have br_f1 := br.out.free 1
  have br_c2 := br.out.cell 2
  have br_f2 := br.out.free 2
  go_wp2_with fail
  refine bodyPost_ret (v := .tuple #[.agg #[.int .i64 0, .int .i64 0, .int .i64 0], .int .i64 20]) (by simp [results, Try.results33, go_sem, br_c0, br_c1, br_c2]) rfl ⟨rfl, ?_⟩
  exact ((HB.out.setCell (by show w.heap.size ≤ w.heap.size + 1; omega) _).setCell (by show w.heap.size ≤ w.heap.size + 1; omega) _).setCell (by show w.heap.size ≤ w.heap.size + 1; omega) _

set_option maxRecDepth 100000 in
set_option maxHeartbeats 3200000 in
theorem ram_bad (c y m d n : Int) (w : World) (h : isCal c) (v0 : Hid (validV c y m d = false)) : Calls Try.prog 33 #[.int .i64 c, .agg #[.int .i64 y, .int .i64 m, .int .i64 d], .int .i64 n] w fun z w' => z = .returned (.tuple #[.agg #[.int .i64 0, .int .i64 0, .int .i64 0], .int .i64 21]) ∧ Below w.heap.size w w' := by
  obtain ⟨nm, hnm, hn'⟩ := rname_any c h
  obtain ⟨e1, e2⟩ := hnm
  have hn := Lib.hid hn'
  clear hn'
  have hv := Lib.hid (fun W => rValid_any c y m d W)
  rw [v0.out] at hv
  have HB := Lib.hid (Below.refl w.heap.size w)
  have bd := Lib.hid (Bk.newAt w #[.int .i64 y, .int .i64 m, .int .i64 d] 28 (w.heap.size) (by simp))
  have HB := Lib.hid (kept_more (o := (.cells #[.int .i64 y, .int .i64 m, .int .i64 d] 28)) HB.out)
  have bd := Lib.hid (bd.out.more (.cells #[.int .i64 0, .int .i64 0, .int .i64 0] 28))
  have br := Lib.hid (Bk.newAt (w.alloc (.cells #[.int .i64 y, .int .i64 m, .int .i64 d] 28)) #[.int .i64 0, .int .i64 0, .int .i64 0] 28 (w.heap.size + 1) (by simp))
  have HB := Lib.hid (kept_more (o := (.cells #[.int .i64 0, .int .i64 0, .int .i64 0] 28)) HB.out)
  go_enter Try.func33, Try.ntmps33
  go_wp2_with fail
  refine (hn.out _).mono ?_
  rintro e w2 ⟨rfl, hb⟩
  have bd := Lib.hid (bd.out.next hb)
  have br := Lib.hid (br.out.next hb)
  have HB := Lib.hid (bel_next HB.out hb)
  clear hb
  have bd_c0 := bd.out.cell 0
  have bd_c1 := bd.out.cell 1
  have bd_c2 := bd.out.cell 2
  go_wp2_with fail
  refine (hv.out _).mono ?_
  rintro e w3 ⟨rfl, hb⟩
  have bd := Lib.hid (bd.out.next hb)
  have br := Lib.hid (br.out.next hb)
  have HB := Lib.hid (bel_next HB.out hb)
  clear bd_c0 bd_c1 bd_c2
  clear hb
  have br_c0 := br.out.cell 0
  have br_f0 := br.out.free 0
  have br_c1 := br.out.cell 1
  have br_f1 := br.out.free 1
  have br_c2 := br.out.cell 2
  have br_f2 := br.out.free 2
  go_wp2_with fail
  refine bodyPost_ret (v := .tuple #[.agg #[.int .i64 0, .int .i64 0, .int .i64 0], .int .i64 21]) (by simp [results, Try.results33, go_sem, br_c0, br_c1, br_c2]) rfl ⟨rfl, ?_⟩
  exact ((HB.out.setCell (by show w.heap.size ≤ w.heap.size + 1; omega) _).setCell (by show w.heap.size ≤ w.heap.size + 1; omega) _).setCell (by show w.heap.size ≤ w.heap.size + 1; omega) _

set_option maxRecDepth 100000 in
set_option maxHeartbeats 3200000 in
theorem ram_low (c y m d n : Int) (w : World) (h : isCal c) (v0 : Hid (validV c y m d = true)) (t1 : decide (n < -240000) = true) : Calls Try.prog 33 #[.int .i64 c, .agg #[.int .i64 y, .int .i64 m, .int .i64 d], .int .i64 n] w fun z w' => z = .returned (.tuple #[.agg #[.int .i64 0, .int .i64 0, .int .i64 0], .int .i64 2]) ∧ Below w.heap.size w w' := by
  obtain ⟨nm, hnm, hn'⟩ := rname_any c h
  obtain ⟨e1, e2⟩ := hnm
  have hn := Lib.hid hn'
  clear hn'
  have hv := Lib.hid (fun W => rValid_any c y m d W)
  rw [v0.out] at hv
  have HB := Lib.hid (Below.refl w.heap.size w)
  have bd := Lib.hid (Bk.newAt w #[.int .i64 y, .int .i64 m, .int .i64 d] 28 (w.heap.size) (by simp))
  have HB := Lib.hid (kept_more (o := (.cells #[.int .i64 y, .int .i64 m, .int .i64 d] 28)) HB.out)
  have bd := Lib.hid (bd.out.more (.cells #[.int .i64 0, .int .i64 0, .int .i64 0] 28))
  have br := Lib.hid (Bk.newAt (w.alloc (.cells #[.int .i64 y, .int .i64 m, .int .i64 d] 28)) #[.int .i64 0, .int .i64 0, .int .i64 0] 28 (w.heap.size + 1) (by simp))
  have HB := Lib.hid (kept_more (o := (.cells #[.int .i64 0, .int .i64 0, .int .i64 0] 28)) HB.out)
  go_enter Try.func33, Try.ntmps33
  go_wp2_with fail
  refine (hn.out _).mono ?_
  rintro e w2 ⟨rfl, hb⟩
  have bd := Lib.hid (bd.out.next hb)
  have br := Lib.hid (br.out.next hb)
  have HB := Lib.hid (bel_next HB.out hb)
  clear hb
  have bd_c0 := bd.out.cell 0
  have bd_c1 := bd.out.cell 1
  have bd_c2 := bd.out.cell 2
  go_wp2_with fail
  refine (hv.out _).mono ?_
  rintro e w3 ⟨rfl, hb⟩
  have bd := Lib.hid (bd.out.next hb)
  have br := Lib.hid (br.out.next hb)
  have HB := Lib.hid (bel_next HB.out hb)
  clear bd_c0 bd_c1 bd_c2
  clear hb
  have br_c0 := br.out.cell 0
  have br_f0 := br.out.free 0
  have br_c1 := br.out.cell 1
  have br_f1 := br.out.free 1
  have br_c2 := br.out.cell 2
  have br_f2 := br.out.free 2
  go_wp2_with fail
  refine bodyPost_ret (v := .tuple #[.agg #[.int .i64 0, .int .i64 0, .int .i64 0], .int .i64 2]) (by simp [results, Try.results33, go_sem, br_c0, br_c1, br_c2]) rfl ⟨rfl, ?_⟩
  exact ((HB.out.setCell (by show w.heap.size ≤ w.heap.size + 1; omega) _).setCell (by show w.heap.size ≤ w.heap.size + 1; omega) _).setCell (by show w.heap.size ≤ w.heap.size + 1; omega) _

set_option maxRecDepth 100000 in
set_option maxHeartbeats 3200000 in
theorem ram_high (c y m d n : Int) (w : World) (h : isCal c) (v0 : Hid (validV c y m d = true)) (t1 : decide (n < -240000) = false) (t2 : decide (240000 < n) = true) : Calls Try.prog 33 #[.int .i64 c, .agg #[.int .i64 y, .int .i64 m, .int .i64 d], .int .i64 n] w fun z w' => z = .returned (.tuple #[.agg #[.int .i64 0, .int .i64 0, .int .i64 0], .int .i64 2]) ∧ Below w.heap.size w w' := by
  obtain ⟨nm, hnm, hn'⟩ := rname_any c h
  obtain ⟨e1, e2⟩ := hnm
  have hn := Lib.hid hn'
  clear hn'
  have hv := Lib.hid (fun W => rValid_any c y m d W)
  rw [v0.out] at hv
  have HB := Lib.hid (Below.refl w.heap.size w)
  have bd := Lib.hid (Bk.newAt w #[.int .i64 y, .int .i64 m, .int .i64 d] 28 (w.heap.size) (by simp))
  have HB := Lib.hid (kept_more (o := (.cells #[.int .i64 y, .int .i64 m, .int .i64 d] 28)) HB.out)
  have bd := Lib.hid (bd.out.more (.cells #[.int .i64 0, .int .i64 0, .int .i64 0] 28))
  have br := Lib.hid (Bk.newAt (w.alloc (.cells #[.int .i64 y, .int .i64 m, .int .i64 d] 28)) #[.int .i64 0, .int .i64 0, .int .i64 0] 28 (w.heap.size + 1) (by simp))
  have HB := Lib.hid (kept_more (o := (.cells #[.int .i64 0, .int .i64 0, .int .i64 0] 28)) HB.out)
  go_enter Try.func33, Try.ntmps33
  go_wp2_with fail
  refine (hn.out _).mono ?_
  rintro e w2 ⟨rfl, hb⟩
  have bd := Lib.hid (bd.out.next hb)
  have br := Lib.hid (br.out.next hb)
  have HB := Lib.hid (bel_next HB.out hb)
  clear hb
  have bd_c0 := bd.out.cell 0
  have bd_c1 := bd.out.cell 1
  have bd_c2 := bd.out.cell 2
  go_wp2_with fail
  refine (hv.out _).mono ?_
  rintro e w3 ⟨rfl, hb⟩
  have bd := Lib.hid (bd.out.next hb)
  have br := Lib.hid (br.out.next hb)
  have HB := Lib.hid (bel_next HB.out hb)
  clear bd_c0 bd_c1 bd_c2
  clear hb
  have br_c0 := br.out.cell 0
  have br_f0 := br.out.free 0
  have br_c1 := br.out.cell 1
  have br_f1 := br.out.free 1
  have br_c2 := br.out.cell 2
  have br_f2 := br.out.free 2
  go_wp2_with fail
  refine bodyPost_ret (v := .tuple #[.agg #[.int .i64 0, .int .i64 0, .int .i64 0], .int .i64 2]) (by simp [results, Try.results33, go_sem, br_c0, br_c1, br_c2]) rfl ⟨rfl, ?_⟩
  exact ((HB.out.setCell (by show w.heap.size ≤ w.heap.size + 1; omega) _).setCell (by show w.heap.size ≤ w.heap.size + 1; omega) _).setCell (by show w.heap.size ≤ w.heap.size + 1; omega) _

set_option maxRecDepth 100000 in
set_option maxHeartbeats 3200000 in
theorem ram_out (c y m d n : Int) (w : World) (h : isCal c) (v0 : Hid (validV c y m d = true)) (t1 : decide (n < -240000) = false) (t2 : decide (240000 < n) = false) (n0 : -240000 ≤ n) (n1 : n ≤ 240000) (y0 : -9999 ≤ y) (y1 : y ≤ 9999) (k0 : 1 ≤ m) (k1 : m ≤ 12) (hX : ¬ (-9999 ≤ amY y m n ∧ amY y m n ≤ 9999)) : Calls Try.prog 33 #[.int .i64 c, .agg #[.int .i64 y, .int .i64 m, .int .i64 d], .int .i64 n] w fun z w' => z = .returned (.tuple #[.agg #[.int .i64 0, .int .i64 0, .int .i64 0], .int .i64 21]) ∧ Below w.heap.size w w' := by
  obtain ⟨nm, hnm, hn'⟩ := rname_any c h
  obtain ⟨e1, e2⟩ := hnm
  have hn := Lib.hid hn'
  clear hn'
  have hv := Lib.hid (fun W => rValid_any c y m d W)
  rw [v0.out] at hv
  have hp := Lib.hid (fun W => part_any (12 * y + m - 1 + n) 12 W (by omega) (by omega) (by omega) (by omega))
  have eM : 1 ≤ (12 * y + m - 1 + n) % 12 + 1 ∧ (12 * y + m - 1 + n) % 12 + 1 ≤ 12 := by omega
  have HQ := Lib.hid (show (12 * y + m - 1 + n) / 12 = amY y m n from rfl)
  have HR' := Lib.hid (show (12 * y + m - 1 + n) % 12 + 1 = amM y m n from rfl)
  have HX := Lib.hid hX
  clear hX h
  have HB := Lib.hid (Below.refl w.heap.size w)
  have bd := Lib.hid (Bk.newAt w #[.int .i64 y, .int .i64 m, .int .i64 d] 28 (w.heap.size) (by simp))
  have HB := Lib.hid (kept_more (o := (.cells #[.int .i64 y, .int .i64 m, .int .i64 d] 28)) HB.out)
  have bd := Lib.hid (bd.out.more (.cells #[.int .i64 0, .int .i64 0, .int .i64 0] 28))
  have br := Lib.hid (Bk.newAt (w.alloc (.cells #[.int .i64 y, .int .i64 m, .int .i64 d] 28)) #[.int .i64 0, .int .i64 0, .int .i64 0] 28 (w.heap.size + 1) (by simp))
  have HB := Lib.hid (kept_more (o := (.cells #[.int .i64 0, .int .i64 0, .int .i64 0] 28)) HB.out)
  go_enter Try.func33, Try.ntmps33
  go_wp2_with fail
  refine (hn.out _).mono ?_
  rintro e w2 ⟨rfl, hb⟩
  have bd := Lib.hid (bd.out.next hb)
  have br := Lib.hid (br.out.next hb)
  have HB := Lib.hid (bel_next HB.out hb)
  clear hb
  have bd_c0 := bd.out.cell 0
  have bd_c1 := bd.out.cell 1
  have bd_c2 := bd.out.cell 2
  go_wp2_with fail
  refine (hv.out _).mono ?_
  rintro e w3 ⟨rfl, hb⟩
  have bd := Lib.hid (bd.out.next hb)
  have br := Lib.hid (br.out.next hb)
  have HB := Lib.hid (bel_next HB.out hb)
  clear bd_c0 bd_c1 bd_c2
  clear hb
  have bd_c0 := bd.out.cell 0
  have bd_c1 := bd.out.cell 1
  have bd_c2 := bd.out.cell 2
  go_wp2_with fail
  refine (hp.out _).mono ?_
  rintro e w4 ⟨rfl, hb⟩
  have bd := Lib.hid (bd.out.next hb)
  have br := Lib.hid (br.out.next hb)
  have HB := Lib.hid (bel_next HB.out hb)
  clear bd_c0 bd_c1 bd_c2
  clear hb
  generalize (12 * y + m - 1 + n) / 12 = q at *
  generalize (12 * y + m - 1 + n) % 12 = r at *
  obtain ⟨r0, r1⟩ := eM
  have hy := Lib.hid (fun W => inRange_no q W (by rw [HQ.out]; exact HX.out))
  go_wp2_with fail
  refine (hy.out _).mono ?_
  rintro e z ⟨rfl, rfl⟩
  have br_c0 := br.out.cell 0
  have br_f0 := br.out.free 0
  have br_c1 := br.out.cell 1
  have br_f1 := br.out.free 1
  have br_c2 := br.out.cell 2
  have br_f2 := br.out.free 2
  go_wp2_with fail
  refine bodyPost_ret (v := .tuple #[.agg #[.int .i64 0, .int .i64 0, .int .i64 0], .int .i64 21]) (by simp [results, Try.results33, go_sem, br_c0, br_c1, br_c2]) rfl ⟨rfl, ?_⟩
  exact ((HB.out.setCell (by show w.heap.size ≤ w.heap.size + 1; omega) _).setCell (by show w.heap.size ≤ w.heap.size + 1; omega) _).setCell (by show w.heap.size ≤ w.heap.size + 1; omega) _

set_option maxRecDepth 100000 in
set_option maxHeartbeats 3200000 in
theorem ram_yes (c y m d n : Int) (w : World) (h : isCal c) (v0 : Hid (validV c y m d = true)) (t1 : decide (n < -240000) = false) (t2 : decide (240000 < n) = false) (n0 : -240000 ≤ n) (n1 : n ≤ 240000) (y0 : -9999 ≤ y) (y1 : y ≤ 9999) (k0 : 1 ≤ m) (k1 : m ≤ 12) (hX : -9999 ≤ amY y m n ∧ amY y m n ≤ 9999) : Calls Try.prog 33 #[.int .i64 c, .agg #[.int .i64 y, .int .i64 m, .int .i64 d], .int .i64 n] w fun z w' => z = .returned (.tuple #[.agg #[.int .i64 (amY y m n), .int .i64 (amM y m n), .int .i64 (min d (dm c (amY y m n) (amM y m n)))], .int .i64 0]) ∧ Below w.heap.size w w' := by
  obtain ⟨nm, hnm, hn'⟩ := rname_any c h
  obtain ⟨e1, e2⟩ := hnm
  have hc := Lib.hid h
  have hn := Lib.hid hn'
  clear hn'
  have hv := Lib.hid (fun W => rValid_any c y m d W)
  rw [v0.out] at hv
  have hp := Lib.hid (fun W => part_any (12 * y + m - 1 + n) 12 W (by omega) (by omega) (by omega) (by omega))
  have eM : 1 ≤ (12 * y + m - 1 + n) % 12 + 1 ∧ (12 * y + m - 1 + n) % 12 + 1 ≤ 12 := by omega
  have HQ := Lib.hid (show (12 * y + m - 1 + n) / 12 = amY y m n from rfl)
  have HR' := Lib.hid (show (12 * y + m - 1 + n) % 12 + 1 = amM y m n from rfl)
  have HX := Lib.hid hX
  clear hX h
  have HB := Lib.hid (Below.refl w.heap.size w)
  have bd := Lib.hid (Bk.newAt w #[.int .i64 y, .int .i64 m, .int .i64 d] 28 (w.heap.size) (by simp))
  have HB := Lib.hid (kept_more (o := (.cells #[.int .i64 y, .int .i64 m, .int .i64 d] 28)) HB.out)
  have bd := Lib.hid (bd.out.more (.cells #[.int .i64 0, .int .i64 0, .int .i64 0] 28))
  have br := Lib.hid (Bk.newAt (w.alloc (.cells #[.int .i64 y, .int .i64 m, .int .i64 d] 28)) #[.int .i64 0, .int .i64 0, .int .i64 0] 28 (w.heap.size + 1) (by simp))
  have HB := Lib.hid (kept_more (o := (.cells #[.int .i64 0, .int .i64 0, .int .i64 0] 28)) HB.out)
  go_enter Try.func33, Try.ntmps33
  go_wp2_with fail
  refine (hn.out _).mono ?_
  rintro e w2 ⟨rfl, hb⟩
  have bd := Lib.hid (bd.out.next hb)
  have br := Lib.hid (br.out.next hb)
  have HB := Lib.hid (bel_next HB.out hb)
  clear hb
  have bd_c0 := bd.out.cell 0
  have bd_c1 := bd.out.cell 1
  have bd_c2 := bd.out.cell 2
  go_wp2_with fail
  refine (hv.out _).mono ?_
  rintro e w3 ⟨rfl, hb⟩
  have bd := Lib.hid (bd.out.next hb)
  have br := Lib.hid (br.out.next hb)
  have HB := Lib.hid (bel_next HB.out hb)
  clear bd_c0 bd_c1 bd_c2
  clear hb
  have bd_c0 := bd.out.cell 0
  have bd_c1 := bd.out.cell 1
  have bd_c2 := bd.out.cell 2
  go_wp2_with fail
  refine (hp.out _).mono ?_
  rintro e w4 ⟨rfl, hb⟩
  have bd := Lib.hid (bd.out.next hb)
  have br := Lib.hid (br.out.next hb)
  have HB := Lib.hid (bel_next HB.out hb)
  clear bd_c0 bd_c1 bd_c2
  clear hb
  generalize (12 * y + m - 1 + n) / 12 = q at *
  generalize (12 * y + m - 1 + n) % 12 = r at *
  obtain ⟨r0, r1⟩ := eM
  have bd_c0 := bd.out.cell 0
  have bd_c1 := bd.out.cell 1
  have bd_c2 := bd.out.cell 2
  have hx0 := HX.out.1
  have hx1 := HX.out.2
  rw [← HQ.out] at hx0 hx1
  have hy := Lib.hid (fun W => inRange_yes q W hx0 hx1)
  have hda := Lib.hid (fun W => rdays_any c q (r + 1) W hc.out (by omega) (by omega))
  have s1 : IntKind.i64.wrap (r + 1) = r + 1 := IntWalk.i64_in _ (by omega)
  have hA := Lib.hid (show Rm w.heap.size y m d w w4 from ⟨Nat.le_refl _, HB.out, bd.out, ⟨_, _, _, br.out⟩⟩)
  go_wp2_with fail
  refine (hy.out _).mono ?_
  rintro e z ⟨rfl, rfl⟩
  clear bd_c0 bd_c1 bd_c2
  by_cases hmin : dm c q (r + 1) < d
  · have Em := Lib.hid (show dm c q (r + 1) = min d (dm c q (r + 1)) by omega)
    go_wp2_with fail
    obtain ⟨z0, z1, z2, l0, l1, l2, f0, f1, f2⟩ := hA.out.slots
    go_region_held3 (fun w' => Rm w.heap.size y m d w w' ∧ w'.cell? ⟨w.heap.size, 0, none⟩ = some (.int .i64 y) ∧ w'.cell? ⟨w.heap.size, 1, none⟩ = some (.int .i64 m) ∧ w'.cell? ⟨w.heap.size, 2, none⟩ = some (.int .i64 d))
      (first | exact Rm.all (Rm.drew (Rm.put2 (Rm.put1 (Rm.put0 hA.out _) _) _)) | exact Rm.all (Rm.put2 (Rm.put1 (Rm.put0 (Rm.drew hA.out) _) _) _) | exact Rm.all (Rm.drew hA.out) | exact Rm.all hA.out | (go_split_ands; exact Rm.all (by assumption)) | go_keep)
      (first | (go_at_call 54; go_split_ands; refine (hda.out _).mono ?_; rintro e z ⟨rfl, rfl⟩))
    go_wp2_with fail
    refine bodyPost_ret (v := .tuple #[.agg #[.int .i64 q, .int .i64 (r + 1), .int .i64 (dm c q (r + 1))], .int .i64 0]) (by simp [results, Try.results33, go_sem, l0, l1, l2]) rfl ⟨?_, ?_⟩
    · have E := Em.out
      rw [HQ.out, HR'.out] at E ⊢
      rw [← E]
    · first | exact (((hA.out.put0 _).put1 _).put2 _).drew.below | exact (((hA.out.drew.put0 _).put1 _).put2 _).below
  · have Em := Lib.hid (show d = min d (dm c q (r + 1)) by omega)
    go_wp2_with fail
    obtain ⟨z0, z1, z2, l0, l1, l2, f0, f1, f2⟩ := hA.out.slots
    go_region_held3 (fun w' => Rm w.heap.size y m d w w' ∧ w'.cell? ⟨w.heap.size, 0, none⟩ = some (.int .i64 y) ∧ w'.cell? ⟨w.heap.size, 1, none⟩ = some (.int .i64 m) ∧ w'.cell? ⟨w.heap.size, 2, none⟩ = some (.int .i64 d))
      (first | exact Rm.all (Rm.drew (Rm.put2 (Rm.put1 (Rm.put0 hA.out _) _) _)) | exact Rm.all (Rm.put2 (Rm.put1 (Rm.put0 (Rm.drew hA.out) _) _) _) | exact Rm.all (Rm.drew hA.out) | exact Rm.all hA.out | (go_split_ands; exact Rm.all (by assumption)) | go_keep)
      (first | (go_at_call 54; go_split_ands; refine (hda.out _).mono ?_; rintro e z ⟨rfl, rfl⟩))
    go_wp2_with fail
    refine bodyPost_ret (v := .tuple #[.agg #[.int .i64 q, .int .i64 (r + 1), .int .i64 (d)], .int .i64 0]) (by simp [results, Try.results33, go_sem, l0, l1, l2]) rfl ⟨?_, ?_⟩
    · have E := Em.out
      rw [HQ.out, HR'.out] at E ⊢
      rw [← E]
    · first | exact (((hA.out.put0 _).put1 _).put2 _).drew.below | exact (((hA.out.drew.put0 _).put1 _).put2 _).below

theorem am_pair (c y m d n : Int) : ∃ p q r e : Int, (∀ W, Calls Try.prog 32 #[.int .i64 c, .agg #[.int .i64 y, .int .i64 m, .int .i64 d], .int .i64 n] W fun zz w' => zz = .returned (.tuple #[.agg #[.int .i64 p, .int .i64 q, .int .i64 r], .int .i64 e]) ∧ Below W.heap.size W w') ∧ (∀ W, Calls Try.prog 33 #[.int .i64 c, .agg #[.int .i64 y, .int .i64 m, .int .i64 d], .int .i64 n] W fun zz w' => zz = .returned (.tuple #[.agg #[.int .i64 p, .int .i64 q, .int .i64 r], .int .i64 e]) ∧ Below W.heap.size W w') := by
  by_cases h : AmOk c y m d n
  · have a := am_yes h
    obtain ⟨hc, hk, n0, n1, r0, r1⟩ := h
    have v0 : validV c y m d = true := by unfold validV; rw [decide_eq_true hc, ok_true hk]; rfl
    obtain ⟨y0, y1, k0, k1, -, -⟩ := hk
    exact ⟨_, _, _, _, a.out, fun W => ram_yes c y m d n W hc (Lib.hid v0) (by simpa using n0) (by simpa using n1) n0 n1 y0 y1 k0 k1 ⟨r0, r1⟩⟩
  · obtain ⟨he, a⟩ := am_no h
    refine ⟨0, 0, 0, _, a.out, fun W => ?_⟩
    unfold amE
    by_cases hc : isCal c
    · rw [if_pos hc]
      by_cases hk : Ok c y m d
      · rw [if_pos hk]
        have v0 := Lib.hid (show validV c y m d = true by unfold validV; rw [decide_eq_true hc, ok_true hk]; rfl)
        have hk' := hk
        obtain ⟨y0, y1, k0, k1, -, -⟩ := hk
        by_cases hn : n < -240000 ∨ 240000 < n
        · rw [if_pos hn]
          by_cases hn1 : n < -240000
          · exact ram_low c y m d n W hc v0 (by simpa using hn1)
          · exact ram_high c y m d n W hc v0 (by simpa using hn1) (by simp; omega)
        · rw [if_neg hn]
          have hr : ¬ (-9999 ≤ amY y m n ∧ amY y m n ≤ 9999) := fun hr => h ⟨hc, hk', by omega, by omega, hr.1, hr.2⟩
          rw [if_neg hr]
          exact ram_out c y m d n W hc v0 (by simp; omega) (by simp; omega) (by omega) (by omega) y0 y1 k0 k1 hr
      · rw [if_neg hk]
        exact ram_bad c y m d n W hc (Lib.hid (by unfold validV; rw [decide_eq_true hc, show ok c y m d = false from decide_eq_false hk]; rfl))
    · rw [if_neg hc]
      exact ram_nocal c y m d n W hc

set_option maxRecDepth 100000 in
set_option maxHeartbeats 3200000 in
theorem months_walk (c y m d n p q r e : Int) (w : World) (a1 : Hid (∀ W, Calls Try.prog 32 #[.int .i64 c, .agg #[.int .i64 y, .int .i64 m, .int .i64 d], .int .i64 n] W fun zz w' => zz = .returned (.tuple #[.agg #[.int .i64 p, .int .i64 q, .int .i64 r], .int .i64 e]) ∧ Below W.heap.size W w')) (a2 : Hid (∀ W, Calls Try.prog 33 #[.int .i64 c, .agg #[.int .i64 y, .int .i64 m, .int .i64 d], .int .i64 n] W fun zz w' => zz = .returned (.tuple #[.agg #[.int .i64 p, .int .i64 q, .int .i64 r], .int .i64 e]) ∧ Below W.heap.size W w')) : Calls Try.prog 6 #[.int .i64 c, .agg #[.int .i64 y, .int .i64 m, .int .i64 d], .int .i64 n] w (LawPost w) := by
  have hs := Lib.hid sane_any
  have HB := Lib.hid (Below.refl w.heap.size w)
  have bd := Lib.hid (Bk.newAt w #[.int .i64 y, .int .i64 m, .int .i64 d] 28 (w.heap.size) (by simp))
  have HB := Lib.hid (kept_more (o := (.cells #[.int .i64 y, .int .i64 m, .int .i64 d] 28)) HB.out)
  go_enter Try.func6, Try.ntmps6
  go_wp2_with fail
  refine (a1.out _).mono ?_
  rintro e w2 ⟨rfl, hb⟩
  have bd := Lib.hid (bd.out.next hb)
  have HB := Lib.hid (bel_next HB.out hb)
  clear hb
  have bd := Lib.hid (bd.out.more (.cells #[.int .i64 p, .int .i64 q, .int .i64 r] 28))
  have bx := Lib.hid (Bk.newAt w2 #[.int .i64 p, .int .i64 q, .int .i64 r] 28 (w2.heap.size) (by simp))
  have HB := Lib.hid (kept_more (o := (.cells #[.int .i64 p, .int .i64 q, .int .i64 r] 28)) HB.out)
  have bd_c0 := bd.out.cell 0
  have bd_c1 := bd.out.cell 1
  have bd_c2 := bd.out.cell 2
  go_wp2_with fail
  refine (a2.out _).mono ?_
  rintro e w3 ⟨rfl, hb⟩
  have bd := Lib.hid (bd.out.next hb)
  have bx := Lib.hid (bx.out.next hb)
  have HB := Lib.hid (bel_next HB.out hb)
  clear bd_c0 bd_c1 bd_c2
  clear hb
  have bd := Lib.hid (bd.out.more (.cells #[.int .i64 p, .int .i64 q, .int .i64 r] 28))
  have bx := Lib.hid (bx.out.more (.cells #[.int .i64 p, .int .i64 q, .int .i64 r] 28))
  have bq := Lib.hid (Bk.newAt w3 #[.int .i64 p, .int .i64 q, .int .i64 r] 28 (w3.heap.size) (by simp))
  have HB := Lib.hid (kept_more (o := (.cells #[.int .i64 p, .int .i64 q, .int .i64 r] 28)) HB.out)
  have bx_c0 := bx.out.cell 0
  have bx_c1 := bx.out.cell 1
  have bx_c2 := bx.out.cell 2
  have bq_c0 := bq.out.cell 0
  have bq_c1 := bq.out.cell 1
  have bq_c2 := bq.out.cell 2
  go_wp2_with fail
  refine (hs.out _).mono ?_
  rintro e w4 ⟨rfl, hb⟩
  have bd := Lib.hid (bd.out.next hb)
  have bx := Lib.hid (bx.out.next hb)
  have bq := Lib.hid (bq.out.next hb)
  have HB := Lib.hid (bel_next HB.out hb)
  clear bx_c0 bx_c1 bx_c2 bq_c0 bq_c1 bq_c2
  clear hb
  go_wp2_with fail
  go_ret
  exact ⟨rfl, HB.out⟩

theorem months_any (c y m d n : Int) (w : World) : Calls Try.prog 6 #[.int .i64 c, .agg #[.int .i64 y, .int .i64 m, .int .i64 d], .int .i64 n] w (LawPost w) := by
  obtain ⟨p, q, r, e, a1, a2⟩ := am_pair c y m d n
  exact months_walk c y m d n p q r e w (Lib.hid a1) (Lib.hid a2)
end Go.Proofs.Ythpeaeepcbbfcaa
