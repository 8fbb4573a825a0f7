/- MapAll. -/
import Derived.Test.YthpeaeepcbbfcaaAQ
import Derived.Test.YthpeaeepcbbfcaaU
import Derived.Laws.MakeOwn
import Derived.OwnWalk
import Derived.RegionTactic
import Derived.ChangeAlike
namespace Go.Proofs.Ythpeaeepcbbfcaa
open Go.RowKit

theorem info3 : (Try.prog.info? 3).map (fun i => (i.zero, i.size, i.bytes)) = some (some (.int .i64 0), 1, 8) := by kernel_rfl
/-- A row of numbers. -/
def row (l : List Int) : Array Value := (l.map (Value.int .i64)).toArray
theorem row_get (l : List Int) (k : Nat) (h : k < l.length) : (row l)[k]? = some (.int .i64 (l.getD k 0)) := by
  unfold row
  rw [List.getElem?_toArray, List.getElem?_map, List.getD_eq_getElem?_getD, List.getElem?_eq_getElem h]; rfl
theorem row_set (l : List Int) (k : Nat) (v : Int) : (row l).setIfInBounds k (.int .i64 v) = row (l.set k v) := by
  unfold row; rw [List.setIfInBounds_toArray, List.map_set]
theorem zeros_row (n : Nat) : madeCells (Value.cells (.int .i64 0)) (n * 1) = row (List.replicate n 0) := by
  have e : Value.cells (.int .i64 0) = #[Value.int .i64 0] := rfl
  rw [e, Nat.mul_one]
  unfold madeCells row
  apply Array.ext
  · simp
  · intro i h1 h2
    simp [Nat.mod_one]
theorem make_ints (n : Nat) (hn : n ≤ 1000) (W : World) : (Instr.makeSlice 41 (.int .i64 (n : Int)) (.int .i64 (n : Int))).run Try.prog W = .ok (.slice (some ⟨W.heap.size, 0, none⟩) n n) (W.alloc (.cells (row (List.replicate n 0)) 3)) := by
  obtain ⟨i0, hi, hz0, hz1, hz2⟩ := info_parts info3
  have h := run_make (P := Try.prog) W 41 3 i0 (.int .i64 0) Try.underlying41 hi hz0 .i64 .i64 (n : Int) (n : Int) (by omega) (by omega) (by rw [hz2]; omega) (by omega)
  rw [hz1, Int.toNat_natCast, zeros_row] at h
  exact h

def IsDay (a n : Int) : Prop := start a (-9999) ≤ n ∧ n < start a 10000
/-- The number n of calendar a in calendar b: a number and a loss. -/
def MapAt (a b n v e : Int) : Prop := ∃ y m d, Ok a y m d ∧ num a y m d = n ∧ ((Ok b y m d ∧ v = num b y m d ∧ e = 0) ∨ (¬ Ok b y m d ∧ v = 0 ∧ e = 1))
theorem MapAt.one {a b n v e v' e' : Int} (h : MapAt a b n v e) (h' : MapAt a b n v' e') : v = v' ∧ e = e' := by
  obtain ⟨y, m, d, h1, h2, h3⟩ := h
  obtain ⟨y', m', d', g1, g2, g3⟩ := h'
  obtain ⟨rfl, rfl, rfl⟩ := num_inj h1 g1 (h2.trans g2.symm)
  rcases h3 with ⟨p, q, r⟩ | ⟨p, q, r⟩ <;> rcases g3 with ⟨p', q', r'⟩ | ⟨p', q', r'⟩
  · exact ⟨q.trans q'.symm, r.trans r'.symm⟩
  · exact absurd p p'
  · exact absurd p' p
  · exact ⟨q.trans q'.symm, r.trans r'.symm⟩

/-- What MapAll keeps: the rules, the two rows. -/
structure Ma (R1 R2 G1 G2 n : Nat) (m0 m1 m2 m3 m4 m5 m6 m7 m8 m9 m10 m11 p0 p1 p2 p3 p4 p5 p6 p7 p8 p9 p10 p11 : Int) (f g : FuncId) (L1 L2 : List Int) (w0 W : World) : Prop where
  l1 : L1.length = n
  l2 : L2.length = n
  low1 : w0.heap.size ≤ G1
  low2 : w0.heap.size ≤ G2
  ne : G1 ≠ G2
  ne1 : R1 ≠ G1 ∧ R1 ≠ G2
  ne2 : R2 ≠ G1 ∧ R2 ≠ G2
  below : Below w0.heap.size w0 W
  r1 : Bk W R1 #[.int .i64 m0, .int .i64 m1, .int .i64 m2, .int .i64 m3, .int .i64 m4, .int .i64 m5, .int .i64 m6, .int .i64 m7, .int .i64 m8, .int .i64 m9, .int .i64 m10, .int .i64 m11, .func (.func f) #[] #[]] 68
  r2 : Bk W R2 #[.int .i64 p0, .int .i64 p1, .int .i64 p2, .int .i64 p3, .int .i64 p4, .int .i64 p5, .int .i64 p6, .int .i64 p7, .int .i64 p8, .int .i64 p9, .int .i64 p10, .int .i64 p11, .func (.func g) #[] #[]] 68
  g1 : Bk W G1 (row L1) 3
  g2 : Bk W G2 (row L2) 3
variable {R1 R2 G1 G2 n : Nat} {m0 m1 m2 m3 m4 m5 m6 m7 m8 m9 m10 m11 p0 p1 p2 p3 p4 p5 p6 p7 p8 p9 p10 p11 : Int} {f g : FuncId} {L1 L2 : List Int} {w0 W W' : World}
theorem Ma.next (h : Ma R1 R2 G1 G2 n m0 m1 m2 m3 m4 m5 m6 m7 m8 m9 m10 m11 p0 p1 p2 p3 p4 p5 p6 p7 p8 p9 p10 p11 f g L1 L2 w0 W) (hb : Below W.heap.size W W') : Ma R1 R2 G1 G2 n m0 m1 m2 m3 m4 m5 m6 m7 m8 m9 m10 m11 p0 p1 p2 p3 p4 p5 p6 p7 p8 p9 p10 p11 f g L1 L2 w0 W' :=
  ⟨h.l1, h.l2, h.low1, h.low2, h.ne, h.ne1, h.ne2, bel_next h.below hb, h.r1.next hb, h.r2.next hb, h.g1.next hb, h.g2.next hb⟩
theorem Ma.put1 (h : Ma R1 R2 G1 G2 n m0 m1 m2 m3 m4 m5 m6 m7 m8 m9 m10 m11 p0 p1 p2 p3 p4 p5 p6 p7 p8 p9 p10 p11 f g L1 L2 w0 W) (k : Nat) (v : Int) : Ma R1 R2 G1 G2 n m0 m1 m2 m3 m4 m5 m6 m7 m8 m9 m10 m11 p0 p1 p2 p3 p4 p5 p6 p7 p8 p9 p10 p11 f g (L1.set k v) L2 w0 (W.setCell ⟨G1, k, none⟩ (.int .i64 v)) :=
  ⟨by rw [List.length_set]; exact h.l1, h.l2, h.low1, h.low2, h.ne, h.ne1, h.ne2, h.below.setCell h.low1 _, h.r1.far h.ne1.1 _, h.r2.far h.ne2.1 _, by rw [← row_set]; exact heap_set' _ _ _ _ _ h.g1, h.g2.far (fun e => h.ne e.symm) _⟩
theorem Ma.put2 (h : Ma R1 R2 G1 G2 n m0 m1 m2 m3 m4 m5 m6 m7 m8 m9 m10 m11 p0 p1 p2 p3 p4 p5 p6 p7 p8 p9 p10 p11 f g L1 L2 w0 W) (k : Nat) (v : Int) : Ma R1 R2 G1 G2 n m0 m1 m2 m3 m4 m5 m6 m7 m8 m9 m10 m11 p0 p1 p2 p3 p4 p5 p6 p7 p8 p9 p10 p11 f g L1 (L2.set k v) w0 (W.setCell ⟨G2, k, none⟩ (.int .i64 v)) :=
  ⟨h.l1, by rw [List.length_set]; exact h.l2, h.low1, h.low2, h.ne, h.ne1, h.ne2, h.below.setCell h.low2 _, h.r1.far h.ne1.2 _, h.r2.far h.ne2.2 _, h.g1.far h.ne _, by rw [← row_set]; exact heap_set' _ _ _ _ _ h.g2⟩
theorem Ma.rule1 (h : Ma R1 R2 G1 G2 n m0 m1 m2 m3 m4 m5 m6 m7 m8 m9 m10 m11 p0 p1 p2 p3 p4 p5 p6 p7 p8 p9 p10 p11 f g L1 L2 w0 W) : W.cell? ⟨R1, 0, none⟩ = some (.int .i64 m0) ∧ W.cell? ⟨R1, 1, none⟩ = some (.int .i64 m1) ∧ W.cell? ⟨R1, 2, none⟩ = some (.int .i64 m2) ∧ W.cell? ⟨R1, 3, none⟩ = some (.int .i64 m3) ∧ W.cell? ⟨R1, 4, none⟩ = some (.int .i64 m4) ∧ W.cell? ⟨R1, 5, none⟩ = some (.int .i64 m5) ∧ W.cell? ⟨R1, 6, none⟩ = some (.int .i64 m6) ∧ W.cell? ⟨R1, 7, none⟩ = some (.int .i64 m7) ∧ W.cell? ⟨R1, 8, none⟩ = some (.int .i64 m8) ∧ W.cell? ⟨R1, 9, none⟩ = some (.int .i64 m9) ∧ W.cell? ⟨R1, 10, none⟩ = some (.int .i64 m10) ∧ W.cell? ⟨R1, 11, none⟩ = some (.int .i64 m11) ∧ W.cell? ⟨R1, 12, none⟩ = some (.func (.func f) #[] #[]) := ⟨h.r1.cell 0, h.r1.cell 1, h.r1.cell 2, h.r1.cell 3, h.r1.cell 4, h.r1.cell 5, h.r1.cell 6, h.r1.cell 7, h.r1.cell 8, h.r1.cell 9, h.r1.cell 10, h.r1.cell 11, h.r1.cell 12⟩
theorem Ma.rule2 (h : Ma R1 R2 G1 G2 n m0 m1 m2 m3 m4 m5 m6 m7 m8 m9 m10 m11 p0 p1 p2 p3 p4 p5 p6 p7 p8 p9 p10 p11 f g L1 L2 w0 W) : W.cell? ⟨R2, 0, none⟩ = some (.int .i64 p0) ∧ W.cell? ⟨R2, 1, none⟩ = some (.int .i64 p1) ∧ W.cell? ⟨R2, 2, none⟩ = some (.int .i64 p2) ∧ W.cell? ⟨R2, 3, none⟩ = some (.int .i64 p3) ∧ W.cell? ⟨R2, 4, none⟩ = some (.int .i64 p4) ∧ W.cell? ⟨R2, 5, none⟩ = some (.int .i64 p5) ∧ W.cell? ⟨R2, 6, none⟩ = some (.int .i64 p6) ∧ W.cell? ⟨R2, 7, none⟩ = some (.int .i64 p7) ∧ W.cell? ⟨R2, 8, none⟩ = some (.int .i64 p8) ∧ W.cell? ⟨R2, 9, none⟩ = some (.int .i64 p9) ∧ W.cell? ⟨R2, 10, none⟩ = some (.int .i64 p10) ∧ W.cell? ⟨R2, 11, none⟩ = some (.int .i64 p11) ∧ W.cell? ⟨R2, 12, none⟩ = some (.func (.func g) #[] #[]) := ⟨h.r2.cell 0, h.r2.cell 1, h.r2.cell 2, h.r2.cell 3, h.r2.cell 4, h.r2.cell 5, h.r2.cell 6, h.r2.cell 7, h.r2.cell 8, h.r2.cell 9, h.r2.cell 10, h.r2.cell 11, h.r2.cell 12⟩
theorem Ma.at1 (h : Ma R1 R2 G1 G2 n m0 m1 m2 m3 m4 m5 m6 m7 m8 m9 m10 m11 p0 p1 p2 p3 p4 p5 p6 p7 p8 p9 p10 p11 f g L1 L2 w0 W) (k : Nat) (hk : k < n) : W.cell? ⟨G1, k, none⟩ = some (.int .i64 (L1.getD k 0)) ∧ W.frozen? ⟨G1, k, none⟩ = false := ⟨(h.g1.cell k).trans (row_get _ _ (by rw [h.l1]; exact hk)), h.g1.free k⟩
theorem Ma.at2 (h : Ma R1 R2 G1 G2 n m0 m1 m2 m3 m4 m5 m6 m7 m8 m9 m10 m11 p0 p1 p2 p3 p4 p5 p6 p7 p8 p9 p10 p11 f g L1 L2 w0 W) (k : Nat) (hk : k < n) : W.cell? ⟨G2, k, none⟩ = some (.int .i64 (L2.getD k 0)) ∧ W.frozen? ⟨G2, k, none⟩ = false := ⟨(h.g2.cell k).trans (row_get _ _ (by rw [h.l2]; exact hk)), h.g2.free k⟩
theorem Ma.rd1 (h : Ma R1 R2 G1 G2 n m0 m1 m2 m3 m4 m5 m6 m7 m8 m9 m10 m11 p0 p1 p2 p3 p4 p5 p6 p7 p8 p9 p10 p11 f g L1 L2 w0 W) : Rd W (some ⟨G1, 0, none⟩) n L1 := ⟨h.l1, .inr ⟨G1, 0, rfl, h.g1.lt, fun j hj => by rw [Nat.zero_add]; exact (h.at1 j hj).1⟩⟩
theorem Ma.rd2 (h : Ma R1 R2 G1 G2 n m0 m1 m2 m3 m4 m5 m6 m7 m8 m9 m10 m11 p0 p1 p2 p3 p4 p5 p6 p7 p8 p9 p10 p11 f g L1 L2 w0 W) : Rd W (some ⟨G2, 0, none⟩) n L2 := ⟨h.l2, .inr ⟨G2, 0, rfl, h.g2.lt, fun j hj => by rw [Nat.zero_add]; exact (h.at2 j hj).1⟩⟩
theorem Ma.drew (h : Ma R1 R2 G1 G2 n m0 m1 m2 m3 m4 m5 m6 m7 m8 m9 m10 m11 p0 p1 p2 p3 p4 p5 p6 p7 p8 p9 p10 p11 f g L1 L2 w0 W) : Ma R1 R2 G1 G2 n m0 m1 m2 m3 m4 m5 m6 m7 m8 m9 m10 m11 p0 p1 p2 p3 p4 p5 p6 p7 p8 p9 p10 p11 f g L1 L2 w0 W.drew :=
  ⟨h.l1, h.l2, h.low1, h.low2, h.ne, h.ne1, h.ne2, h.below.drew, h.r1, h.r2, h.g1, h.g2⟩
theorem Ma.start {G : Nat} (hb : Below w0.heap.size w0 W) (h1 : Bk W R1 #[.int .i64 m0, .int .i64 m1, .int .i64 m2, .int .i64 m3, .int .i64 m4, .int .i64 m5, .int .i64 m6, .int .i64 m7, .int .i64 m8, .int .i64 m9, .int .i64 m10, .int .i64 m11, .func (.func f) #[] #[]] 68) (h2 : Bk W R2 #[.int .i64 p0, .int .i64 p1, .int .i64 p2, .int .i64 p3, .int .i64 p4, .int .i64 p5, .int .i64 p6, .int .i64 p7, .int .i64 p8, .int .i64 p9, .int .i64 p10, .int .i64 p11, .func (.func g) #[] #[]] 68) (hG : G = W.heap.size) :
    Ma R1 R2 G (G + 1) n m0 m1 m2 m3 m4 m5 m6 m7 m8 m9 m10 m11 p0 p1 p2 p3 p4 p5 p6 p7 p8 p9 p10 p11 f g (List.replicate n 0) (List.replicate n 0) w0 ((W.alloc (.cells (row (List.replicate n 0)) 3)).alloc (.cells (row (List.replicate n 0)) 3)) := by
  have a1 := h1.lt
  have a2 := h2.lt
  have a3 := hb.size
  subst hG
  exact ⟨by simp, by simp, a3, by omega, by omega, ⟨by omega, by omega⟩, ⟨by omega, by omega⟩, kept_more (kept_more hb), (h1.more _).more _, (h2.more _).more _, (Bk.new _ _ _).more _, Bk.newAt _ _ _ _ (by simp)⟩
theorem Ma.swap (h : Ma R1 R2 G1 G2 n m0 m1 m2 m3 m4 m5 m6 m7 m8 m9 m10 m11 p0 p1 p2 p3 p4 p5 p6 p7 p8 p9 p10 p11 f g L1 L2 w0 W) : Ma R1 R2 G2 G1 n m0 m1 m2 m3 m4 m5 m6 m7 m8 m9 m10 m11 p0 p1 p2 p3 p4 p5 p6 p7 p8 p9 p10 p11 f g L2 L1 w0 W :=
  ⟨h.l2, h.l1, h.low2, h.low1, fun e => h.ne e.symm, ⟨h.ne1.2, h.ne1.1⟩, ⟨h.ne2.2, h.ne2.1⟩, h.below, h.r1, h.r2, h.g2, h.g1⟩
/-- The first k numbers are mapped, the rest is 0. -/
def Done (a b : Int) (n : Nat) (l L1 L2 : List Int) (k : Nat) : Prop := (∀ i, i < k → MapAt a b (l.getD i 0) (L1.getD i 0) (L2.getD i 0)) ∧ ∀ i, k ≤ i → L1.getD i 0 = 0 ∧ L2.getD i 0 = 0
theorem getD_set (L : List Int) (k i : Nat) (v : Int) (h : k < L.length) : (L.set k v).getD i 0 = if k = i then v else L.getD i 0 := by
  rw [List.getD_eq_getElem?_getD, List.getD_eq_getElem?_getD, List.getElem?_set]
  by_cases e : k = i
  · subst e; simp [h]
  · simp [e]
theorem Done.step1 {a b : Int} {n k : Nat} {l L1 L2 : List Int} {v : Int} (h : Done a b n l L1 L2 k) (h1 : k < L1.length) (h2 : k < L2.length) (hm : MapAt a b (l.getD k 0) v 0) : Done a b n l (L1.set k v) (L2.set k 0) (k + 1) := by
  refine ⟨fun i hi => ?_, fun i hi => ?_⟩
  · rw [getD_set _ _ _ _ h1, getD_set _ _ _ _ h2]
    by_cases e : k = i
    · subst e; rw [if_pos rfl, if_pos rfl]; exact hm
    · rw [if_neg e, if_neg e]; exact h.1 i (by omega)
  · rw [getD_set _ _ _ _ h1, getD_set _ _ _ _ h2, if_neg (by omega), if_neg (by omega)]; exact h.2 i (by omega)
theorem Done.step2 {a b : Int} {n k : Nat} {l L1 L2 : List Int} (h : Done a b n l L1 L2 k) (h2 : k < L2.length) (hm : MapAt a b (l.getD k 0) 0 1) : Done a b n l L1 (L2.set k 1) (k + 1) := by
  refine ⟨fun i hi => ?_, fun i hi => ?_⟩
  · rw [getD_set _ _ _ _ h2]
    by_cases e : k = i
    · subst e; rw [if_pos rfl, (h.2 k (Nat.le_refl _)).1]; exact hm
    · rw [if_neg e]; exact h.1 i (by omega)
  · rw [getD_set _ _ _ _ h2, if_neg (by omega)]; exact h.2 i (by omega)
theorem Done.zero (a b : Int) (n : Nat) (l : List Int) : Done a b n l (List.replicate n 0) (List.replicate n 0) 0 :=
  ⟨fun i hi => by omega, fun i _ => by rw [List.getD_eq_getElem?_getD, List.getElem?_replicate]; split <;> exact ⟨rfl, rfl⟩⟩
/-- What MapAll returns where every number has a date. -/
def MapsTo (a b : Int) (n : Nat) (l : List Int) (w : World) (z : Ending) (w' : World) : Prop :=
  Below w.heap.size w w' ∧ ∃ p q c d L1 L2, z = .returned (.tuple #[.slice p n c, .slice q n d, .int .i64 0]) ∧ n ≤ c ∧ n ≤ d ∧ Rd w' p n L1 ∧ Rd w' q n L2 ∧ ∀ i, i < n → MapAt a b (l.getD i 0) (L1.getD i 0) (L2.getD i 0)

set_option maxRecDepth 100000 in
set_option maxHeartbeats 3200000 in
theorem mapall_nn (a b : Int) (p : Option Addr) (n c : Nat) (w : World) (ha : ¬ isCal a) (hb0 : ¬ isCal b) : Calls Try.prog 36 #[.int .i64 a, .int .i64 b, .slice p n c] w fun z w' => z = .returned (.tuple #[.slice none 0 0, .slice none 0 0, .int .i64 20]) ∧ Below w.heap.size w w' := by
  have h1 := Lib.hid (fun W => rulesOf_no a W ha)
  clear ha
  have h2 := Lib.hid (fun W => rulesOf_no b W hb0)
  clear hb0
  have HB := Lib.hid (Below.refl w.heap.size w)
  go_enter Try.func36, Try.ntmps36
  go_wp2_with fail
  refine (h1.out _).mono ?_
  rintro e w2 ⟨rfl, hb⟩
  have HB := Lib.hid (bel_next HB.out hb)
  clear hb
  have HB := Lib.hid (kept_more (o := (.cells #[.int .i64 0, .int .i64 0, .int .i64 0, .int .i64 0, .int .i64 0, .int .i64 0, .int .i64 0, .int .i64 0, .int .i64 0, .int .i64 0, .int .i64 0, .int .i64 0, .nilFunc] 68)) HB.out)
  go_wp2_with fail
  refine (h2.out _).mono ?_
  rintro e w3 ⟨rfl, hb⟩
  have HB := Lib.hid (bel_next HB.out hb)
  clear hb
  have HB := Lib.hid (kept_more (o := (.cells #[.int .i64 0, .int .i64 0, .int .i64 0, .int .i64 0, .int .i64 0, .int .i64 0, .int .i64 0, .int .i64 0, .int .i64 0, .int .i64 0, .int .i64 0, .int .i64 0, .nilFunc] 68)) HB.out)
  go_wp2_with fail
  go_ret3
  exact ⟨rfl, HB.out⟩

set_option maxRecDepth 100000 in
set_option maxHeartbeats 3200000 in
theorem mapall_ny (a b : Int) (p : Option Addr) (n c : Nat) (w : World) (ha : ¬ isCal a) (hb0 : isCal b) : Calls Try.prog 36 #[.int .i64 a, .int .i64 b, .slice p n c] w fun z w' => z = .returned (.tuple #[.slice none 0 0, .slice none 0 0, .int .i64 20]) ∧ Below w.heap.size w w' := by
  have h1 := Lib.hid (fun W => rulesOf_no a W ha)
  clear ha
  have h2 := Lib.hid (fun W => rulesOf_ok b W hb0)
  clear hb0
  have HB := Lib.hid (Below.refl w.heap.size w)
  go_enter Try.func36, Try.ntmps36
  go_wp2_with fail
  refine (h1.out _).mono ?_
  rintro e w2 ⟨rfl, hb⟩
  have HB := Lib.hid (bel_next HB.out hb)
  clear hb
  have HB := Lib.hid (kept_more (o := (.cells #[.int .i64 0, .int .i64 0, .int .i64 0, .int .i64 0, .int .i64 0, .int .i64 0, .int .i64 0, .int .i64 0, .int .i64 0, .int .i64 0, .int .i64 0, .int .i64 0, .nilFunc] 68)) HB.out)
  go_wp2_with fail
  refine (h2.out _).mono ?_
  rintro e w3 ⟨r, rfl, hr, hb⟩
  obtain ⟨p0, p1, p2, p3, p4, p5, p6, p7, p8, p9, p10, p11, g, rfl⟩ := hr.form
  have Hr2 := Lib.hid hr
  clear hr
  have HB := Lib.hid (bel_next HB.out hb)
  clear hb
  have r2 := Lib.hid (Bk.newAt w3 #[.int .i64 p0, .int .i64 p1, .int .i64 p2, .int .i64 p3, .int .i64 p4, .int .i64 p5, .int .i64 p6, .int .i64 p7, .int .i64 p8, .int .i64 p9, .int .i64 p10, .int .i64 p11, .func (.func g) #[] #[]] 68 (w3.heap.size) (by simp))
  have HB := Lib.hid (kept_more (o := (.cells #[.int .i64 p0, .int .i64 p1, .int .i64 p2, .int .i64 p3, .int .i64 p4, .int .i64 p5, .int .i64 p6, .int .i64 p7, .int .i64 p8, .int .i64 p9, .int .i64 p10, .int .i64 p11, .func (.func g) #[] #[]] 68)) HB.out)
  go_wp2_with fail
  go_ret3
  exact ⟨rfl, HB.out⟩

set_option maxRecDepth 100000 in
set_option maxHeartbeats 3200000 in
theorem mapall_yn (a b : Int) (p : Option Addr) (n c : Nat) (w : World) (ha : isCal a) (hb0 : ¬ isCal b) : Calls Try.prog 36 #[.int .i64 a, .int .i64 b, .slice p n c] w fun z w' => z = .returned (.tuple #[.slice none 0 0, .slice none 0 0, .int .i64 20]) ∧ Below w.heap.size w w' := by
  have h1 := Lib.hid (fun W => rulesOf_ok a W ha)
  clear ha
  have h2 := Lib.hid (fun W => rulesOf_no b W hb0)
  clear hb0
  have HB := Lib.hid (Below.refl w.heap.size w)
  go_enter Try.func36, Try.ntmps36
  go_wp2_with fail
  refine (h1.out _).mono ?_
  rintro e w2 ⟨r, rfl, hr, hb⟩
  obtain ⟨m0, m1, m2, m3, m4, m5, m6, m7, m8, m9, m10, m11, f, rfl⟩ := hr.form
  have Hr1 := Lib.hid hr
  clear hr
  have HB := Lib.hid (bel_next HB.out hb)
  clear hb
  have r1 := Lib.hid (Bk.newAt w2 #[.int .i64 m0, .int .i64 m1, .int .i64 m2, .int .i64 m3, .int .i64 m4, .int .i64 m5, .int .i64 m6, .int .i64 m7, .int .i64 m8, .int .i64 m9, .int .i64 m10, .int .i64 m11, .func (.func f) #[] #[]] 68 (w2.heap.size) (by simp))
  have HB := Lib.hid (kept_more (o := (.cells #[.int .i64 m0, .int .i64 m1, .int .i64 m2, .int .i64 m3, .int .i64 m4, .int .i64 m5, .int .i64 m6, .int .i64 m7, .int .i64 m8, .int .i64 m9, .int .i64 m10, .int .i64 m11, .func (.func f) #[] #[]] 68)) HB.out)
  go_wp2_with fail
  refine (h2.out _).mono ?_
  rintro e w3 ⟨rfl, hb⟩
  have r1 := Lib.hid (r1.out.next hb)
  have HB := Lib.hid (bel_next HB.out hb)
  clear hb
  have r1 := Lib.hid (r1.out.more (.cells #[.int .i64 0, .int .i64 0, .int .i64 0, .int .i64 0, .int .i64 0, .int .i64 0, .int .i64 0, .int .i64 0, .int .i64 0, .int .i64 0, .int .i64 0, .int .i64 0, .nilFunc] 68))
  have HB := Lib.hid (kept_more (o := (.cells #[.int .i64 0, .int .i64 0, .int .i64 0, .int .i64 0, .int .i64 0, .int .i64 0, .int .i64 0, .int .i64 0, .int .i64 0, .int .i64 0, .int .i64 0, .int .i64 0, .nilFunc] 68)) HB.out)
  go_wp2_with fail
  go_ret3
  exact ⟨rfl, HB.out⟩

set_option maxRecDepth 100000 in
set_option maxHeartbeats 3200000 in
theorem mapall_ok (a b : Int) (p : Option Addr) (n c : Nat) (l : List Int) (w : World) (hn : n ≤ 1000) (hnc : n ≤ c) (hl : Rd w p n l) (ha : isCal a) (hb0 : isCal b) (hd : ∀ i, i < n → IsDay a (l.getD i 0)) : Calls Try.prog 36 #[.int .i64 a, .int .i64 b, .slice p n c] w (MapsTo a b n l w) := by
  have h1 := Lib.hid (fun W => rulesOf_ok a W ha)
  clear ha
  have h2 := Lib.hid (fun W => rulesOf_ok b W hb0)
  clear hb0
  have HB := Lib.hid (Below.refl w.heap.size w)
  go_enter Try.func36, Try.ntmps36
  go_wp2_with fail
  refine (h1.out _).mono ?_
  rintro e w2 ⟨r, rfl, hr, hb⟩
  obtain ⟨m0, m1, m2, m3, m4, m5, m6, m7, m8, m9, m10, m11, f, rfl⟩ := hr.form
  have Hr1 := Lib.hid hr
  clear hr
  have HB := Lib.hid (bel_next HB.out hb)
  clear hb
  have r1 := Lib.hid (Bk.newAt w2 #[.int .i64 m0, .int .i64 m1, .int .i64 m2, .int .i64 m3, .int .i64 m4, .int .i64 m5, .int .i64 m6, .int .i64 m7, .int .i64 m8, .int .i64 m9, .int .i64 m10, .int .i64 m11, .func (.func f) #[] #[]] 68 (w2.heap.size) (by simp))
  have HB := Lib.hid (kept_more (o := (.cells #[.int .i64 m0, .int .i64 m1, .int .i64 m2, .int .i64 m3, .int .i64 m4, .int .i64 m5, .int .i64 m6, .int .i64 m7, .int .i64 m8, .int .i64 m9, .int .i64 m10, .int .i64 m11, .func (.func f) #[] #[]] 68)) HB.out)
  go_wp2_with fail
  refine (h2.out _).mono ?_
  rintro e w3 ⟨r, rfl, hr, hb⟩
  obtain ⟨p0, p1, p2, p3, p4, p5, p6, p7, p8, p9, p10, p11, g, rfl⟩ := hr.form
  have Hr2 := Lib.hid hr
  clear hr
  have r1 := Lib.hid (r1.out.next hb)
  have HB := Lib.hid (bel_next HB.out hb)
  clear hb
  have r1 := Lib.hid (r1.out.more (.cells #[.int .i64 p0, .int .i64 p1, .int .i64 p2, .int .i64 p3, .int .i64 p4, .int .i64 p5, .int .i64 p6, .int .i64 p7, .int .i64 p8, .int .i64 p9, .int .i64 p10, .int .i64 p11, .func (.func g) #[] #[]] 68))
  have r2 := Lib.hid (Bk.newAt w3 #[.int .i64 p0, .int .i64 p1, .int .i64 p2, .int .i64 p3, .int .i64 p4, .int .i64 p5, .int .i64 p6, .int .i64 p7, .int .i64 p8, .int .i64 p9, .int .i64 p10, .int .i64 p11, .func (.func g) #[] #[]] 68 (w3.heap.size) (by simp))
  have HB := Lib.hid (kept_more (o := (.cells #[.int .i64 p0, .int .i64 p1, .int .i64 p2, .int .i64 p3, .int .i64 p4, .int .i64 p5, .int .i64 p6, .int .i64 p7, .int .i64 p8, .int .i64 p9, .int .i64 p10, .int .i64 p11, .func (.func g) #[] #[]] 68)) HB.out)
  have hmk := make_ints n hn
  have hcz : (c : Int) ≤ c := Int.le_refl _
  have HL := Lib.hid hl
  have HD := Lib.hid hd
  clear hl hd
  go_wp2_with fail
  go_region
  · go_wp2_with fail
    have hM0 := Lib.hid (Ma.start (n := n) HB.out r1.out r2.out (G := w3.heap.size + 1) (by simp))
    go_loopw [43] (fun i wr => ∃ (k : Nat) (L1 L2 : List Int), k ≤ n ∧ i = .int .i64 k ∧ Hid (Ma w2.heap.size w3.heap.size (w3.heap.size + 1) (w3.heap.size + 1 + 1) n m0 m1 m2 m3 m4 m5 m6 m7 m8 m9 m10 m11 p0 p1 p2 p3 p4 p5 p6 p7 p8 p9 p10 p11 f g L1 L2 w wr) ∧ Hid (Done a b n l L1 L2 k)) (fun i _ => n - (intOf i).toNat)
    case atStart => first | exact ⟨0, _, _, Nat.zero_le _, rfl, Lib.hid hM0.out.drew, Lib.hid (Done.zero a b n l)⟩ | exact ⟨0, _, _, Nat.zero_le _, rfl, Lib.hid hM0.out.drew.swap, Lib.hid (Done.zero a b n l)⟩ | exact ⟨0, _, _, Nat.zero_le _, rfl, hM0, Lib.hid (Done.zero a b n l)⟩ | exact ⟨0, _, _, Nat.zero_le _, rfl, Lib.hid hM0.out.swap, Lib.hid (Done.zero a b n l)⟩
    case round =>
      obtain ⟨k, L1, L2, hk, rfl, hM, hDn⟩ := hrel
      by_cases hlt : k < n
      · obtain ⟨bb, off, v, rfl, hbl, hcell, hv⟩ := (HL.out.below hM.out.below).at hlt
        have hday := HD.out k hlt
        rw [hv.out] at hday
        obtain ⟨y, m, d, hok, hnum⟩ := date_exists a v hday.1 hday.2
        have hdate := Lib.hid (fun W => date_at W Hr1.out hok hnum)
        have Hok := Lib.hid hok
        have Hnum := Lib.hid hnum
        clear hday hok hnum hbl
        obtain ⟨a0, a1, a2, a3, a4, a5, a6, a7, a8, a9, a10, a11, a12⟩ := hM.out.rule1
        go_wp2_with fail
        refine (hdate.out _).mono ?_
        rintro e w5 ⟨rfl, hb⟩
        have hM5 := Lib.hid ((hM.out.next hb).next (below_alloc w5 (.cells #[.int .i64 y, .int .i64 m, .int .i64 d] 28)))
        have bd := Lib.hid (Bk.new w5 #[.int .i64 y, .int .i64 m, .int .i64 d] 28)
        clear hb hcell a0 a1 a2 a3 a4 a5 a6 a7 a8 a9 a10 a11 a12
        obtain ⟨a0, a1, a2, a3, a4, a5, a6, a7, a8, a9, a10, a11, a12⟩ := hM5.out.rule2
        have d0 := bd.out.cell 0
        have d1 := bd.out.cell 1
        have d2 := bd.out.cell 2
        have hv2 := Lib.hid (fun W => valid_any _ b y m d W Hr2.out)
        cases hu : ok b y m d with
        | true =>
          rw [hu] at hv2
          have hnb := Lib.hid (fun W => number_any _ b y m d W Hr2.out ((ok_of hu).1 rfl))
          have hat := Lib.hid (show MapAt a b (l.getD k 0) (num b y m d) 0 from ⟨y, m, d, Hok.out, by rw [hv.out]; exact Hnum.out, .inl ⟨(ok_of hu).1 rfl, rfl, rfl⟩⟩)
          clear hu
          generalize num b y m d = nb at *
          go_wp2_with fail
          refine (hv2.out _).mono ?_
          rintro e w6 ⟨rfl, hb⟩
          have hM6 := Lib.hid (hM5.out.next hb)
          have bd := Lib.hid (bd.out.next hb)
          clear hb d0 d1 d2 a0 a1 a2 a3 a4 a5 a6 a7 a8 a9 a10 a11 a12
          obtain ⟨a0, a1, a2, a3, a4, a5, a6, a7, a8, a9, a10, a11, a12⟩ := hM6.out.rule2
          have d0 := bd.out.cell 0
          have d1 := bd.out.cell 1
          have d2 := bd.out.cell 2
          go_wp2_with fail
          refine (hnb.out _).mono ?_
          rintro e w7 ⟨rfl, hb⟩
          have hM7 := Lib.hid (hM6.out.next hb)
          clear hb d0 d1 d2 a0 a1 a2 a3 a4 a5 a6 a7 a8 a9 a10 a11 a12
          obtain ⟨q1, f1⟩ := hM7.out.at1 k hlt
          obtain ⟨q2, f2⟩ := (hM7.out.put1 k nb).at2 k hlt
          have hMe := Lib.hid ((hM7.out.put1 k nb).put2 k 0)
          have hDe := Lib.hid (hDn.out.step1 (by rw [hM7.out.l1]; exact hlt) (by rw [hM7.out.l2]; exact hlt) hat.out)
          go_wp2_with fail
          go_roundw
          case rel => exact ⟨k + 1, _, _, by omega, by go_num, hMe, hDe⟩
          case measure => simp [intOf]; omega
        | false =>
          rw [hu] at hv2
          have hat := Lib.hid (show MapAt a b (l.getD k 0) 0 1 from ⟨y, m, d, Hok.out, by rw [hv.out]; exact Hnum.out, .inr ⟨(ok_of hu).2 rfl, rfl, rfl⟩⟩)
          clear hu
          go_wp2_with fail
          refine (hv2.out _).mono ?_
          rintro e w6 ⟨rfl, hb⟩
          have hM6 := Lib.hid (hM5.out.next hb)
          clear hb d0 d1 d2 a0 a1 a2 a3 a4 a5 a6 a7 a8 a9 a10 a11 a12
          obtain ⟨q2, f2⟩ := hM6.out.at2 k hlt
          have hMe := Lib.hid (hM6.out.put2 k 1)
          have hDe := Lib.hid (hDn.out.step2 (by rw [hM6.out.l2]; exact hlt) hat.out)
          go_wp2_with fail
          go_roundw
          case rel => exact ⟨k + 1, _, _, by omega, by go_num, hMe, hDe⟩
          case measure => simp [intOf]; omega
      · obtain rfl : k = n := by omega
        go_wp2_with fail
        go_ret3
        exact ⟨hM.out.below, _, _, _, _, _, _, rfl, Nat.le_refl _, Nat.le_refl _, hM.out.rd1, hM.out.rd2, hDn.out.1⟩
  · go_wp2_with fail
    have hM0 := Lib.hid (Ma.start (n := n) HB.out r1.out r2.out (G := w3.heap.size + 1) (by simp))
    go_loopw [43] (fun i wr => ∃ (k : Nat) (L1 L2 : List Int), k ≤ n ∧ i = .int .i64 k ∧ Hid (Ma w2.heap.size w3.heap.size (w3.heap.size + 1 + 1) (w3.heap.size + 1) n m0 m1 m2 m3 m4 m5 m6 m7 m8 m9 m10 m11 p0 p1 p2 p3 p4 p5 p6 p7 p8 p9 p10 p11 f g L1 L2 w wr) ∧ Hid (Done a b n l L1 L2 k)) (fun i _ => n - (intOf i).toNat)
    case atStart => first | exact ⟨0, _, _, Nat.zero_le _, rfl, Lib.hid hM0.out.drew, Lib.hid (Done.zero a b n l)⟩ | exact ⟨0, _, _, Nat.zero_le _, rfl, Lib.hid hM0.out.drew.swap, Lib.hid (Done.zero a b n l)⟩ | exact ⟨0, _, _, Nat.zero_le _, rfl, hM0, Lib.hid (Done.zero a b n l)⟩ | exact ⟨0, _, _, Nat.zero_le _, rfl, Lib.hid hM0.out.swap, Lib.hid (Done.zero a b n l)⟩
    case round =>
      obtain ⟨k, L1, L2, hk, rfl, hM, hDn⟩ := hrel
      by_cases hlt : k < n
      · obtain ⟨bb, off, v, rfl, hbl, hcell, hv⟩ := (HL.out.below hM.out.below).at hlt
        have hday := HD.out k hlt
        rw [hv.out] at hday
        obtain ⟨y, m, d, hok, hnum⟩ := date_exists a v hday.1 hday.2
        have hdate := Lib.hid (fun W => date_at W Hr1.out hok hnum)
        have Hok := Lib.hid hok
        have Hnum := Lib.hid hnum
        clear hday hok hnum hbl
        obtain ⟨a0, a1, a2, a3, a4, a5, a6, a7, a8, a9, a10, a11, a12⟩ := hM.out.rule1
        go_wp2_with fail
        refine (hdate.out _).mono ?_
        rintro e w5 ⟨rfl, hb⟩
        have hM5 := Lib.hid ((hM.out.next hb).next (below_alloc w5 (.cells #[.int .i64 y, .int .i64 m, .int .i64 d] 28)))
        have bd := Lib.hid (Bk.new w5 #[.int .i64 y, .int .i64 m, .int .i64 d] 28)
        clear hb hcell a0 a1 a2 a3 a4 a5 a6 a7 a8 a9 a10 a11 a12
        obtain ⟨a0, a1, a2, a3, a4, a5, a6, a7, a8, a9, a10, a11, a12⟩ := hM5.out.rule2
        have d0 := bd.out.cell 0
        have d1 := bd.out.cell 1
        have d2 := bd.out.cell 2
        have hv2 := Lib.hid (fun W => valid_any _ b y m d W Hr2.out)
        cases hu : ok b y m d with
        | true =>
          rw [hu] at hv2
          have hnb := Lib.hid (fun W => number_any _ b y m d W Hr2.out ((ok_of hu).1 rfl))
          have hat := Lib.hid (show MapAt a b (l.getD k 0) (num b y m d) 0 from ⟨y, m, d, Hok.out, by rw [hv.out]; exact Hnum.out, .inl ⟨(ok_of hu).1 rfl, rfl, rfl⟩⟩)
          clear hu
          generalize num b y m d = nb at *
          go_wp2_with fail
          refine (hv2.out _).mono ?_
          rintro e w6 ⟨rfl, hb⟩
          have hM6 := Lib.hid (hM5.out.next hb)
          have bd := Lib.hid (bd.out.next hb)
          clear hb d0 d1 d2 a0 a1 a2 a3 a4 a5 a6 a7 a8 a9 a10 a11 a12
          obtain ⟨a0, a1, a2, a3, a4, a5, a6, a7, a8, a9, a10, a11, a12⟩ := hM6.out.rule2
          have d0 := bd.out.cell 0
          have d1 := bd.out.cell 1
          have d2 := bd.out.cell 2
          go_wp2_with fail
          refine (hnb.out _).mono ?_
          rintro e w7 ⟨rfl, hb⟩
          have hM7 := Lib.hid (hM6.out.next hb)
          clear hb d0 d1 d2 a0 a1 a2 a3 a4 a5 a6 a7 a8 a9 a10 a11 a12
          obtain ⟨q1, f1⟩ := hM7.out.at1 k hlt
          obtain ⟨q2, f2⟩ := (hM7.out.put1 k nb).at2 k hlt
          have hMe := Lib.hid ((hM7.out.put1 k nb).put2 k 0)
          have hDe := Lib.hid (hDn.out.step1 (by rw [hM7.out.l1]; exact hlt) (by rw [hM7.out.l2]; exact hlt) hat.out)
          go_wp2_with fail
          go_roundw
          case rel => exact ⟨k + 1, _, _, by omega, by go_num, hMe, hDe⟩
          case measure => simp [intOf]; omega
        | false =>
          rw [hu] at hv2
          have hat := Lib.hid (show MapAt a b (l.getD k 0) 0 1 from ⟨y, m, d, Hok.out, by rw [hv.out]; exact Hnum.out, .inr ⟨(ok_of hu).2 rfl, rfl, rfl⟩⟩)
          clear hu
          go_wp2_with fail
          refine (hv2.out _).mono ?_
          rintro e w6 ⟨rfl, hb⟩
          have hM6 := Lib.hid (hM5.out.next hb)
          clear hb d0 d1 d2 a0 a1 a2 a3 a4 a5 a6 a7 a8 a9 a10 a11 a12
          obtain ⟨q2, f2⟩ := hM6.out.at2 k hlt
          have hMe := Lib.hid (hM6.out.put2 k 1)
          have hDe := Lib.hid (hDn.out.step2 (by rw [hM6.out.l2]; exact hlt) hat.out)
          go_wp2_with fail
          go_roundw
          case rel => exact ⟨k + 1, _, _, by omega, by go_num, hMe, hDe⟩
          case measure => simp [intOf]; omega
      · obtain rfl : k = n := by omega
        go_wp2_with fail
        go_ret3
        exact ⟨hM.out.below, _, _, _, _, _, _, rfl, Nat.le_refl _, Nat.le_refl _, hM.out.rd1, hM.out.rd2, hDn.out.1⟩
end Go.Proofs.Ythpeaeepcbbfcaa
