/- Texts of units: findWord. Texts of units: findWord, its other ways. Texts of units: findWord. -/
import Derived.Test.YtoegbjmoecbjdaaGreatDoorPart13
set_option maxHeartbeats 1600000
set_option maxRecDepth 100000
namespace Go.Proofs.YtoegbjmoecbjdaaGreatDoor
open Go.RowKit Go.Lib Big
def WordPost (o : Option (Rat × List Int)) (w : World) (e : Ending) (w' : World) : Prop :=
  Below w.heap.size w w' ∧ ∃ b p n c q m d p0 p1 p2 p3 p4 p5 p6, e = .returned (.tuple #[.agg #[.bool b, .slice p n c, .slice q m d, .int .i64 p0, .int .i64 p1, .int .i64 p2, .int .i64 p3, .int .i64 p4, .int .i64 p5, .int .i64 p6, .int .i64 0], .bool o.isSome]) ∧ ∀ v l, o = some (v, l) → RatIs w' (.agg #[.bool b, .slice p n c, .slice q m d]) v 40 ∧ [p0, p1, p2, p3, p4, p5, p6] = l
theorem sym_all {w W : World} {g B : Nat} {v : ByteArray} {p0 p1 p2 p3 p4 p5 p6 : Int} {b : Bool} (h : Keep w W [(g, #[.string v, .int .i64 p0, .int .i64 p1, .int .i64 p2, .int .i64 p3, .int .i64 p4, .int .i64 p5, .int .i64 p6, .bool b], 235)]) (hr : ResF B w W) : Keep w W [(g, #[.string v, .int .i64 p0, .int .i64 p1, .int .i64 p2, .int .i64 p3, .int .i64 p4, .int .i64 p5, .int .i64 p6, .bool b], 235)] ∧ ResF B w W ∧ W.cell? ⟨g, 0, none⟩ = some (.string v) ∧ W.cell? ⟨g, 1, none⟩ = some (.int .i64 p0) ∧ W.cell? ⟨g, 2, none⟩ = some (.int .i64 p1) ∧ W.cell? ⟨g, 3, none⟩ = some (.int .i64 p2) ∧ W.cell? ⟨g, 4, none⟩ = some (.int .i64 p3) ∧ W.cell? ⟨g, 5, none⟩ = some (.int .i64 p4) ∧ W.cell? ⟨g, 6, none⟩ = some (.int .i64 p5) ∧ W.cell? ⟨g, 7, none⟩ = some (.int .i64 p6) :=
  ⟨h, hr, ceh (h.one _ (List.mem_cons_self ..)) 0, ceh (h.one _ (List.mem_cons_self ..)) 1, ceh (h.one _ (List.mem_cons_self ..)) 2, ceh (h.one _ (List.mem_cons_self ..)) 3, ceh (h.one _ (List.mem_cons_self ..)) 4, ceh (h.one _ (List.mem_cons_self ..)) 5, ceh (h.one _ (List.mem_cons_self ..)) 6, ceh (h.one _ (List.mem_cons_self ..)) 7⟩
theorem word_sym (s v : ByteArray) (p0 p1 p2 p3 p4 p5 p6 : Int) (b : Bool) (r : Rat) (w : World) (hs : ∀ W, Hid (Calls Tryz.prog 242 #[.string s] W fun e w' => Below W.heap.size W w' ∧ e = .returned (.tuple #[.agg #[.string v, .int .i64 p0, .int .i64 p1, .int .i64 p2, .int .i64 p3, .int .i64 p4, .int .i64 p5, .int .i64 p6, .bool b], .bool true]))) (hk : ∀ W, Hid (Calls Tryz.prog 227 #[.string v] W (IsPost r 20 W))) : Calls Tryz.prog 229 #[.string s] w (WordPost (some (r, [p0, p1, p2, p3, p4, p5, p6])) w) := by
  have hrf := hiD (ResF.start w)
  have hb0 := hiD (bea w (.cells #[.bool false, .slice none 0 0, .slice none 0 0, .int .i64 0, .int .i64 0, .int .i64 0, .int .i64 0, .int .i64 0, .int .i64 0, .int .i64 0, .int .i64 0] 157))
  go_enter Tryz.func229, Tryz.ntmps229
  go_wp2_with fail
  refine (hs _).out.mono ?_
  rintro e w2 ⟨hb2, rfl⟩
  have hrf2 := hiD (hrf.out.next hb2)
  have hk3 : Hid (Keep w (w2.alloc (.cells #[.string v, .int .i64 p0, .int .i64 p1, .int .i64 p2, .int .i64 p3, .int .i64 p4, .int .i64 p5, .int .i64 p6, .bool b] 235)) [(w2.heap.size, #[.string v, .int .i64 p0, .int .i64 p1, .int .i64 p2, .int .i64 p3, .int .i64 p4, .int .i64 p5, .int .i64 p6, .bool b], 235)]) := hiD ((Keep.next (Keep.sub (Keep.mk hrf.out.below (L := []) (fun _ h => by cases h)) (fun _ h => by cases h)) hb2).more _ 235)
  have hrf3 := hiD (hrf2.out.next (bea w2 (.cells #[.string v, .int .i64 p0, .int .i64 p1, .int .i64 p2, .int .i64 p3, .int .i64 p4, .int .i64 p5, .int .i64 p6, .bool b] 235)))
  have hle : w.heap.size ≤ w.heap.size := Nat.le_refl _
  have hne : Hid (∀ x ∈ ([(w2.heap.size, #[.string v, .int .i64 p0, .int .i64 p1, .int .i64 p2, .int .i64 p3, .int .i64 p4, .int .i64 p5, .int .i64 p6, .bool b], 235)] : List Blk), x.1 ≠ w.heap.size) := hiD (by
    have := hrf2.out.lt
    intro x hx
    simp only [List.mem_cons, List.not_mem_nil, or_false] at hx
    subst hx
    dsimp only; omega)
  obtain ⟨-, -, e0, e1, e2, e3, e4, e5, e6, e7⟩ := sym_all hk3.out hrf3.out
  clear hb2
  go_wp2_with fail
  go_region_held3 (fun w' => Keep w w' [(w2.heap.size, #[.string v, .int .i64 p0, .int .i64 p1, .int .i64 p2, .int .i64 p3, .int .i64 p4, .int .i64 p5, .int .i64 p6, .bool b], 235)] ∧ ResF w.heap.size w w' ∧ w'.cell? ⟨w2.heap.size, 0, none⟩ = some (.string v) ∧ w'.cell? ⟨w2.heap.size, 1, none⟩ = some (.int .i64 p0) ∧ w'.cell? ⟨w2.heap.size, 2, none⟩ = some (.int .i64 p1) ∧ w'.cell? ⟨w2.heap.size, 3, none⟩ = some (.int .i64 p2) ∧ w'.cell? ⟨w2.heap.size, 4, none⟩ = some (.int .i64 p3) ∧ w'.cell? ⟨w2.heap.size, 5, none⟩ = some (.int .i64 p4) ∧ w'.cell? ⟨w2.heap.size, 6, none⟩ = some (.int .i64 p5) ∧ w'.cell? ⟨w2.heap.size, 7, none⟩ = some (.int .i64 p6))
    (first | with_reducible exact sym_all (Keep.putF_far hkk hle hne.out _ _ _ _ _ _ _ _ _ _ _) (ResF.put hrk hle _ _ _ _ _ _ _ _ _ _ _ ⟨nub _, nus _ _ _, nus _ _ _, nui _, nui _, nui _, nui _, nui _, nui _, nui _, nui _⟩).1 | with_reducible exact sym_all (Keep.drew hk3.out) (ResF.drew hrf3.out) | (go_split_ands; with_reducible exact sym_all (Keep.next (by assumption) hb4) (ResF.next (by assumption) hb4)))
    (first | (go_at_call 227; go_split_ands; refine (hk _).out.mono ?_; rintro e w4 ⟨x, rfl, hx, hb4⟩; have hkk := Keep.next (by assumption) hb4; have hrk := ResF.next (by assumption) hb4; obtain ⟨b1, p, n, c, q, m, d, rfl⟩ := hx.agg; obtain ⟨z0, z1, z2, z3, z4, z5, z6, z7, z8, z9, z10, ⟨l0, l1, l2, l3, l4, l5, l6, l7, l8, l9, l10⟩, ⟨f0, f1, f2, f3, f4, f5, f6, f7, f8, f9, f10⟩⟩ := ResF.slots hrk))
  go_wp2_with fail
  have Hrf := hiD hrk
  have hfin : Hid (∀ W, W = ((((((((((((w4).setCell ⟨w.heap.size, 0, none⟩ (.bool b1)).setCell ⟨w.heap.size, 1, none⟩ (.slice p n c)).setCell ⟨w.heap.size, 2, none⟩ (.slice q m d)).setCell ⟨w.heap.size, 3, none⟩ (.int .i64 p0)).setCell ⟨w.heap.size, 4, none⟩ (.int .i64 p1)).setCell ⟨w.heap.size, 5, none⟩ (.int .i64 p2)).setCell ⟨w.heap.size, 6, none⟩ (.int .i64 p3)).setCell ⟨w.heap.size, 7, none⟩ (.int .i64 p4)).setCell ⟨w.heap.size, 8, none⟩ (.int .i64 p5)).setCell ⟨w.heap.size, 9, none⟩ (.int .i64 p6)).setCell ⟨w.heap.size, 10, none⟩ (.int .i64 0)) → WordPost (some (r, [p0, p1, p2, p3, p4, p5, p6])) w (.returned (.tuple #[.agg #[.bool b1, .slice p n c, .slice q m d, .int .i64 p0, .int .i64 p1, .int .i64 p2, .int .i64 p3, .int .i64 p4, .int .i64 p5, .int .i64 p6, .int .i64 0], .bool true])) W) := hiD (by
    rintro W rfl
    refine ⟨(Hrf.out.put hle (.bool b1) (.slice p n c) (.slice q m d) (.int .i64 p0) (.int .i64 p1) (.int .i64 p2) (.int .i64 p3) (.int .i64 p4) (.int .i64 p5) (.int .i64 p6) (.int .i64 0) ⟨nub _, nus _ _ _, nus _ _ _, nui _, nui _, nui _, nui _, nui _, nui _, nui _, nui _⟩).1.below, _, _, _, _, _, _, _, _, _, _, _, _, _, _, rfl, ?_⟩
    rintro _ _ h
    cases h
    exact ⟨Hrf.out.rat (hx.more (by omega)) (.bool b1) (.slice p n c) (.slice q m d) (.int .i64 p0) (.int .i64 p1) (.int .i64 p2) (.int .i64 p3) (.int .i64 p4) (.int .i64 p5) (.int .i64 p6) (.int .i64 0) ⟨nub _, nus _ _ _, nus _ _ _, nui _, nui _, nui _, nui _, nui _, nui _, nui _, nui _⟩, rfl⟩)
  have hcells := (Hrf.out.put hle (.bool b1) (.slice p n c) (.slice q m d) (.int .i64 p0) (.int .i64 p1) (.int .i64 p2) (.int .i64 p3) (.int .i64 p4) (.int .i64 p5) (.int .i64 p6) (.int .i64 0) ⟨nub _, nus _ _ _, nus _ _ _, nui _, nui _, nui _, nui _, nui _, nui _, nui _, nui _⟩).2
  generalize (((((((((((w4).setCell ⟨w.heap.size, 0, none⟩ (.bool b1)).setCell ⟨w.heap.size, 1, none⟩ (.slice p n c)).setCell ⟨w.heap.size, 2, none⟩ (.slice q m d)).setCell ⟨w.heap.size, 3, none⟩ (.int .i64 p0)).setCell ⟨w.heap.size, 4, none⟩ (.int .i64 p1)).setCell ⟨w.heap.size, 5, none⟩ (.int .i64 p2)).setCell ⟨w.heap.size, 6, none⟩ (.int .i64 p3)).setCell ⟨w.heap.size, 7, none⟩ (.int .i64 p4)).setCell ⟨w.heap.size, 8, none⟩ (.int .i64 p5)).setCell ⟨w.heap.size, 9, none⟩ (.int .i64 p6)).setCell ⟨w.heap.size, 10, none⟩ (.int .i64 0) = WW at hcells hfin ⊢
  have c0 := ceh hcells 0
  have c1 := ceh hcells 1
  have c2 := ceh hcells 2
  have c3 := ceh hcells 3
  have c4 := ceh hcells 4
  have c5 := ceh hcells 5
  have c6 := ceh hcells 6
  have c7 := ceh hcells 7
  have c8 := ceh hcells 8
  have c9 := ceh hcells 9
  have c10 := ceh hcells 10
  refine bodyPost_ret (v := .tuple #[.agg #[.bool b1, .slice p n c, .slice q m d, .int .i64 p0, .int .i64 p1, .int .i64 p2, .int .i64 p3, .int .i64 p4, .int .i64 p5, .int .i64 p6, .int .i64 0], .bool true]) (by simp [results, Tryz.results229, go_sem, c0, c1, c2, c3, c4, c5, c6, c7, c8, c9, c10]) rfl ?_
  exact hfin.out _ rfl
theorem word_empty (s : ByteArray) (w : World) (he : s.toList = []) (hs : ∀ W, Hid (Calls Tryz.prog 242 #[.string s] W fun e w' => Below W.heap.size W w' ∧ ∃ (v : ByteArray) (y0 y1 y2 y3 y4 y5 y6 : Int) (b : Bool), e = .returned (.tuple #[.agg #[.string v, .int .i64 y0, .int .i64 y1, .int .i64 y2, .int .i64 y3, .int .i64 y4, .int .i64 y5, .int .i64 y6, .bool b], .bool false]))) : Calls Tryz.prog 229 #[.string s] w (WordPost none w) := by
  have he2 : s.toList.isEmpty = true := by rw [he]; rfl
  have hrf := hiD (ResF.start w)
  have hle : w.heap.size ≤ w.heap.size := Nat.le_refl _
  go_enter Tryz.func229, Tryz.ntmps229
  go_wp2_with fail
  refine (hs _).out.mono ?_
  rintro e w2 ⟨hb2, v1, y0, y1, y2, y3, y4, y5, y6, bb1, rfl⟩
  have hrf3 := hiD ((hrf.out.next hb2).next (bea w2 (.cells #[.string v1, .int .i64 y0, .int .i64 y1, .int .i64 y2, .int .i64 y3, .int .i64 y4, .int .i64 y5, .int .i64 y6, .bool bb1] 235)))
  have Hrf := hrf3
  obtain ⟨z0, z1, z2, z3, z4, z5, z6, z7, z8, z9, z10, ⟨l0, l1, l2, l3, l4, l5, l6, l7, l8, l9, l10⟩, ⟨f0, f1, f2, f3, f4, f5, f6, f7, f8, f9, f10⟩⟩ := Hrf.out.slots
  have hfin : Hid (∀ W, W = ((((((((((((w2.alloc (.cells #[.string v1, .int .i64 y0, .int .i64 y1, .int .i64 y2, .int .i64 y3, .int .i64 y4, .int .i64 y5, .int .i64 y6, .bool bb1] 235)).setCell ⟨w.heap.size, 0, none⟩ (.bool false)).setCell ⟨w.heap.size, 1, none⟩ (.slice none 0 0)).setCell ⟨w.heap.size, 2, none⟩ (.slice none 0 0)).setCell ⟨w.heap.size, 3, none⟩ (.int .i64 0)).setCell ⟨w.heap.size, 4, none⟩ (.int .i64 0)).setCell ⟨w.heap.size, 5, none⟩ (.int .i64 0)).setCell ⟨w.heap.size, 6, none⟩ (.int .i64 0)).setCell ⟨w.heap.size, 7, none⟩ (.int .i64 0)).setCell ⟨w.heap.size, 8, none⟩ (.int .i64 0)).setCell ⟨w.heap.size, 9, none⟩ (.int .i64 0)).setCell ⟨w.heap.size, 10, none⟩ (.int .i64 0)) → WordPost none w (.returned (.tuple #[.agg #[.bool false, .slice none 0 0, .slice none 0 0, .int .i64 0, .int .i64 0, .int .i64 0, .int .i64 0, .int .i64 0, .int .i64 0, .int .i64 0, .int .i64 0], .bool false])) W) := hiD (by
    rintro W rfl
    exact ⟨(Hrf.out.put hle (.bool false) (.slice none 0 0) (.slice none 0 0) (.int .i64 0) (.int .i64 0) (.int .i64 0) (.int .i64 0) (.int .i64 0) (.int .i64 0) (.int .i64 0) (.int .i64 0) ⟨nub _, nus _ _ _, nus _ _ _, nui _, nui _, nui _, nui _, nui _, nui _, nui _, nui _⟩).1.below, _, _, _, _, _, _, _, _, _, _, _, _, _, _, rfl, by rintro _ _ h; cases h⟩)
  clear hb2
  go_wp2_with fail
  have hcells := (Hrf.out.put hle (.bool false) (.slice none 0 0) (.slice none 0 0) (.int .i64 0) (.int .i64 0) (.int .i64 0) (.int .i64 0) (.int .i64 0) (.int .i64 0) (.int .i64 0) (.int .i64 0) ⟨nub _, nus _ _ _, nus _ _ _, nui _, nui _, nui _, nui _, nui _, nui _, nui _, nui _⟩).2
  generalize (((((((((((w2.alloc (.cells #[.string v1, .int .i64 y0, .int .i64 y1, .int .i64 y2, .int .i64 y3, .int .i64 y4, .int .i64 y5, .int .i64 y6, .bool bb1] 235)).setCell ⟨w.heap.size, 0, none⟩ (.bool false)).setCell ⟨w.heap.size, 1, none⟩ (.slice none 0 0)).setCell ⟨w.heap.size, 2, none⟩ (.slice none 0 0)).setCell ⟨w.heap.size, 3, none⟩ (.int .i64 0)).setCell ⟨w.heap.size, 4, none⟩ (.int .i64 0)).setCell ⟨w.heap.size, 5, none⟩ (.int .i64 0)).setCell ⟨w.heap.size, 6, none⟩ (.int .i64 0)).setCell ⟨w.heap.size, 7, none⟩ (.int .i64 0)).setCell ⟨w.heap.size, 8, none⟩ (.int .i64 0)).setCell ⟨w.heap.size, 9, none⟩ (.int .i64 0)).setCell ⟨w.heap.size, 10, none⟩ (.int .i64 0) = WW at hcells hfin ⊢
  have c0 := ceh hcells 0
  have c1 := ceh hcells 1
  have c2 := ceh hcells 2
  have c3 := ceh hcells 3
  have c4 := ceh hcells 4
  have c5 := ceh hcells 5
  have c6 := ceh hcells 6
  have c7 := ceh hcells 7
  have c8 := ceh hcells 8
  have c9 := ceh hcells 9
  have c10 := ceh hcells 10
  refine bodyPost_ret (v := .tuple #[.agg #[.bool false, .slice none 0 0, .slice none 0 0, .int .i64 0, .int .i64 0, .int .i64 0, .int .i64 0, .int .i64 0, .int .i64 0, .int .i64 0, .int .i64 0], .bool false]) (by simp [results, Tryz.results229, go_sem, c0, c1, c2, c3, c4, c5, c6, c7, c8, c9, c10]) rfl ?_
  exact hfin.out _ rfl
theorem word_no2 (s pv : ByteArray) (w : World) (hpos : 0 < s.size) (hmax : (s.size : Int) ≤ 9223372036854775807) (_he : ¬ s.toList = []) (he2 : s.toList.isEmpty = false) (hs : ∀ W, Hid (Calls Tryz.prog 242 #[.string s] W fun e w' => Below W.heap.size W w' ∧ ∃ (v : ByteArray) (y0 y1 y2 y3 y4 y5 y6 : Int) (b : Bool), e = .returned (.tuple #[.agg #[.string v, .int .i64 y0, .int .i64 y1, .int .i64 y2, .int .i64 y3, .int .i64 y4, .int .i64 y5, .int .i64 y6, .bool b], .bool false]))) (hpv : ∀ W, Hid (Calls Tryz.prog 243 #[.int .u8 (s[0]'hpos).toNat] W fun e w' => e = .returned (.string pv) ∧ W = w')) (hs2 : ∀ W, Hid (Calls Tryz.prog 242 #[.string (s.extract 1 s.size)] W fun e w' => Below W.heap.size W w' ∧ ∃ (v : ByteArray) (x0 x1 x2 x3 x4 x5 x6 : Int) (b : Bool), e = .returned (.tuple #[.agg #[.string v, .int .i64 x0, .int .i64 x1, .int .i64 x2, .int .i64 x3, .int .i64 x4, .int .i64 x5, .int .i64 x6, .bool b], .bool false]))) : Calls Tryz.prog 229 #[.string s] w (WordPost none w) := by
  have hrf := hiD (ResF.start w)
  have hle : w.heap.size ≤ w.heap.size := Nat.le_refl _
  go_enter Tryz.func229, Tryz.ntmps229
  go_wp2_with fail
  refine (hs _).out.mono ?_
  rintro e w2 ⟨hb2, v1, y0, y1, y2, y3, y4, y5, y6, bb1, rfl⟩
  have hrf3 := hiD ((hrf.out.next hb2).next (bea w2 (.cells #[.string v1, .int .i64 y0, .int .i64 y1, .int .i64 y2, .int .i64 y3, .int .i64 y4, .int .i64 y5, .int .i64 y6, .bool bb1] 235)))
  have hpv1 := hpv (w2.alloc (.cells #[.string v1, .int .i64 y0, .int .i64 y1, .int .i64 y2, .int .i64 y3, .int .i64 y4, .int .i64 y5, .int .i64 y6, .bool bb1] 235))
  clear hb2 hpv
  go_wp2_with fail
  refine hpv1.out.mono ?_
  rintro e w3 ⟨rfl, rfl⟩
  have hs21 := hs2 (w2.alloc (.cells #[.string v1, .int .i64 y0, .int .i64 y1, .int .i64 y2, .int .i64 y3, .int .i64 y4, .int .i64 y5, .int .i64 y6, .bool bb1] 235))
  clear hs2 hpv1
  go_wp2_with fail
  refine hs21.out.mono ?_
  rintro e w4 ⟨hb4, v2, x0, x1, x2, x3, x4, x5, x6, bb2, rfl⟩
  have Hrf := hiD ((hrf3.out.next hb4).next (bea w4 (.cells #[.string v2, .int .i64 x0, .int .i64 x1, .int .i64 x2, .int .i64 x3, .int .i64 x4, .int .i64 x5, .int .i64 x6, .bool bb2] 235)))
  obtain ⟨z0, z1, z2, z3, z4, z5, z6, z7, z8, z9, z10, ⟨l0, l1, l2, l3, l4, l5, l6, l7, l8, l9, l10⟩, ⟨f0, f1, f2, f3, f4, f5, f6, f7, f8, f9, f10⟩⟩ := Hrf.out.slots
  have hfin : Hid (∀ W, W = ((((((((((((w4.alloc (.cells #[.string v2, .int .i64 x0, .int .i64 x1, .int .i64 x2, .int .i64 x3, .int .i64 x4, .int .i64 x5, .int .i64 x6, .bool bb2] 235)).setCell ⟨w.heap.size, 0, none⟩ (.bool false)).setCell ⟨w.heap.size, 1, none⟩ (.slice none 0 0)).setCell ⟨w.heap.size, 2, none⟩ (.slice none 0 0)).setCell ⟨w.heap.size, 3, none⟩ (.int .i64 0)).setCell ⟨w.heap.size, 4, none⟩ (.int .i64 0)).setCell ⟨w.heap.size, 5, none⟩ (.int .i64 0)).setCell ⟨w.heap.size, 6, none⟩ (.int .i64 0)).setCell ⟨w.heap.size, 7, none⟩ (.int .i64 0)).setCell ⟨w.heap.size, 8, none⟩ (.int .i64 0)).setCell ⟨w.heap.size, 9, none⟩ (.int .i64 0)).setCell ⟨w.heap.size, 10, none⟩ (.int .i64 0)) → WordPost none w (.returned (.tuple #[.agg #[.bool false, .slice none 0 0, .slice none 0 0, .int .i64 0, .int .i64 0, .int .i64 0, .int .i64 0, .int .i64 0, .int .i64 0, .int .i64 0, .int .i64 0], .bool false])) W) := hiD (by
    rintro W rfl
    exact ⟨(Hrf.out.put hle (.bool false) (.slice none 0 0) (.slice none 0 0) (.int .i64 0) (.int .i64 0) (.int .i64 0) (.int .i64 0) (.int .i64 0) (.int .i64 0) (.int .i64 0) (.int .i64 0) ⟨nub _, nus _ _ _, nus _ _ _, nui _, nui _, nui _, nui _, nui _, nui _, nui _, nui _⟩).1.below, _, _, _, _, _, _, _, _, _, _, _, _, _, _, rfl, by rintro _ _ h; cases h⟩)
  clear hb4
  go_wp2_with fail
  have hcells := (Hrf.out.put hle (.bool false) (.slice none 0 0) (.slice none 0 0) (.int .i64 0) (.int .i64 0) (.int .i64 0) (.int .i64 0) (.int .i64 0) (.int .i64 0) (.int .i64 0) (.int .i64 0) ⟨nub _, nus _ _ _, nus _ _ _, nui _, nui _, nui _, nui _, nui _, nui _, nui _, nui _⟩).2
  generalize (((((((((((w4.alloc (.cells #[.string v2, .int .i64 x0, .int .i64 x1, .int .i64 x2, .int .i64 x3, .int .i64 x4, .int .i64 x5, .int .i64 x6, .bool bb2] 235)).setCell ⟨w.heap.size, 0, none⟩ (.bool false)).setCell ⟨w.heap.size, 1, none⟩ (.slice none 0 0)).setCell ⟨w.heap.size, 2, none⟩ (.slice none 0 0)).setCell ⟨w.heap.size, 3, none⟩ (.int .i64 0)).setCell ⟨w.heap.size, 4, none⟩ (.int .i64 0)).setCell ⟨w.heap.size, 5, none⟩ (.int .i64 0)).setCell ⟨w.heap.size, 6, none⟩ (.int .i64 0)).setCell ⟨w.heap.size, 7, none⟩ (.int .i64 0)).setCell ⟨w.heap.size, 8, none⟩ (.int .i64 0)).setCell ⟨w.heap.size, 9, none⟩ (.int .i64 0)).setCell ⟨w.heap.size, 10, none⟩ (.int .i64 0) = WW at hcells hfin ⊢
  have c0 := ceh hcells 0
  have c1 := ceh hcells 1
  have c2 := ceh hcells 2
  have c3 := ceh hcells 3
  have c4 := ceh hcells 4
  have c5 := ceh hcells 5
  have c6 := ceh hcells 6
  have c7 := ceh hcells 7
  have c8 := ceh hcells 8
  have c9 := ceh hcells 9
  have c10 := ceh hcells 10
  refine bodyPost_ret (v := .tuple #[.agg #[.bool false, .slice none 0 0, .slice none 0 0, .int .i64 0, .int .i64 0, .int .i64 0, .int .i64 0, .int .i64 0, .int .i64 0, .int .i64 0, .int .i64 0], .bool false]) (by simp [results, Tryz.results229, go_sem, c0, c1, c2, c3, c4, c5, c6, c7, c8, c9, c10]) rfl ?_
  exact hfin.out _ rfl
theorem word_noprefix (s v pv : ByteArray) (p0 p1 p2 p3 p4 p5 p6 : Int) (_b : Bool) (w : World) (hpos : 0 < s.size) (hmax : (s.size : Int) ≤ 9223372036854775807) (_he : ¬ s.toList = []) (he2 : s.toList.isEmpty = false) (hs : ∀ W, Hid (Calls Tryz.prog 242 #[.string s] W fun e w' => Below W.heap.size W w' ∧ ∃ (v : ByteArray) (y0 y1 y2 y3 y4 y5 y6 : Int) (b : Bool), e = .returned (.tuple #[.agg #[.string v, .int .i64 y0, .int .i64 y1, .int .i64 y2, .int .i64 y3, .int .i64 y4, .int .i64 y5, .int .i64 y6, .bool b], .bool false]))) (hpv : ∀ W, Hid (Calls Tryz.prog 243 #[.int .u8 (s[0]'hpos).toNat] W fun e w' => e = .returned (.string pv) ∧ W = w')) (hs2 : ∀ W, Hid (Calls Tryz.prog 242 #[.string (s.extract 1 s.size)] W fun e w' => Below W.heap.size W w' ∧ e = .returned (.tuple #[.agg #[.string v, .int .i64 p0, .int .i64 p1, .int .i64 p2, .int .i64 p3, .int .i64 p4, .int .i64 p5, .int .i64 p6, .bool false], .bool true]))) : Calls Tryz.prog 229 #[.string s] w (WordPost none w) := by
  have hrf := hiD (ResF.start w)
  have hle : w.heap.size ≤ w.heap.size := Nat.le_refl _
  go_enter Tryz.func229, Tryz.ntmps229
  go_wp2_with fail
  refine (hs _).out.mono ?_
  rintro e w2 ⟨hb2, v1, y0, y1, y2, y3, y4, y5, y6, bb1, rfl⟩
  have hrf3 := hiD ((hrf.out.next hb2).next (bea w2 (.cells #[.string v1, .int .i64 y0, .int .i64 y1, .int .i64 y2, .int .i64 y3, .int .i64 y4, .int .i64 y5, .int .i64 y6, .bool bb1] 235)))
  have hpv1 := hpv (w2.alloc (.cells #[.string v1, .int .i64 y0, .int .i64 y1, .int .i64 y2, .int .i64 y3, .int .i64 y4, .int .i64 y5, .int .i64 y6, .bool bb1] 235))
  clear hb2 hpv
  go_wp2_with fail
  refine hpv1.out.mono ?_
  rintro e w3 ⟨rfl, rfl⟩
  have hs21 := hs2 (w2.alloc (.cells #[.string v1, .int .i64 y0, .int .i64 y1, .int .i64 y2, .int .i64 y3, .int .i64 y4, .int .i64 y5, .int .i64 y6, .bool bb1] 235))
  clear hs2 hpv1
  go_wp2_with fail
  refine hs21.out.mono ?_
  rintro e w4 ⟨hb4, rfl⟩
  have Hrf := hiD ((hrf3.out.next hb4).next (bea w4 (.cells #[.string v, .int .i64 p0, .int .i64 p1, .int .i64 p2, .int .i64 p3, .int .i64 p4, .int .i64 p5, .int .i64 p6, .bool false] 235)))
  obtain ⟨z0, z1, z2, z3, z4, z5, z6, z7, z8, z9, z10, ⟨l0, l1, l2, l3, l4, l5, l6, l7, l8, l9, l10⟩, ⟨f0, f1, f2, f3, f4, f5, f6, f7, f8, f9, f10⟩⟩ := Hrf.out.slots
  have hfin : Hid (∀ W, W = ((((((((((((w4.alloc (.cells #[.string v, .int .i64 p0, .int .i64 p1, .int .i64 p2, .int .i64 p3, .int .i64 p4, .int .i64 p5, .int .i64 p6, .bool false] 235)).setCell ⟨w.heap.size, 0, none⟩ (.bool false)).setCell ⟨w.heap.size, 1, none⟩ (.slice none 0 0)).setCell ⟨w.heap.size, 2, none⟩ (.slice none 0 0)).setCell ⟨w.heap.size, 3, none⟩ (.int .i64 0)).setCell ⟨w.heap.size, 4, none⟩ (.int .i64 0)).setCell ⟨w.heap.size, 5, none⟩ (.int .i64 0)).setCell ⟨w.heap.size, 6, none⟩ (.int .i64 0)).setCell ⟨w.heap.size, 7, none⟩ (.int .i64 0)).setCell ⟨w.heap.size, 8, none⟩ (.int .i64 0)).setCell ⟨w.heap.size, 9, none⟩ (.int .i64 0)).setCell ⟨w.heap.size, 10, none⟩ (.int .i64 0)) → WordPost none w (.returned (.tuple #[.agg #[.bool false, .slice none 0 0, .slice none 0 0, .int .i64 0, .int .i64 0, .int .i64 0, .int .i64 0, .int .i64 0, .int .i64 0, .int .i64 0, .int .i64 0], .bool false])) W) := hiD (by
    rintro W rfl
    exact ⟨(Hrf.out.put hle (.bool false) (.slice none 0 0) (.slice none 0 0) (.int .i64 0) (.int .i64 0) (.int .i64 0) (.int .i64 0) (.int .i64 0) (.int .i64 0) (.int .i64 0) (.int .i64 0) ⟨nub _, nus _ _ _, nus _ _ _, nui _, nui _, nui _, nui _, nui _, nui _, nui _, nui _⟩).1.below, _, _, _, _, _, _, _, _, _, _, _, _, _, _, rfl, by rintro _ _ h; cases h⟩)
  clear hb4
  go_wp2_with fail
  have hcells := (Hrf.out.put hle (.bool false) (.slice none 0 0) (.slice none 0 0) (.int .i64 0) (.int .i64 0) (.int .i64 0) (.int .i64 0) (.int .i64 0) (.int .i64 0) (.int .i64 0) (.int .i64 0) ⟨nub _, nus _ _ _, nus _ _ _, nui _, nui _, nui _, nui _, nui _, nui _, nui _, nui _⟩).2
  generalize (((((((((((w4.alloc (.cells #[.string v, .int .i64 p0, .int .i64 p1, .int .i64 p2, .int .i64 p3, .int .i64 p4, .int .i64 p5, .int .i64 p6, .bool false] 235)).setCell ⟨w.heap.size, 0, none⟩ (.bool false)).setCell ⟨w.heap.size, 1, none⟩ (.slice none 0 0)).setCell ⟨w.heap.size, 2, none⟩ (.slice none 0 0)).setCell ⟨w.heap.size, 3, none⟩ (.int .i64 0)).setCell ⟨w.heap.size, 4, none⟩ (.int .i64 0)).setCell ⟨w.heap.size, 5, none⟩ (.int .i64 0)).setCell ⟨w.heap.size, 6, none⟩ (.int .i64 0)).setCell ⟨w.heap.size, 7, none⟩ (.int .i64 0)).setCell ⟨w.heap.size, 8, none⟩ (.int .i64 0)).setCell ⟨w.heap.size, 9, none⟩ (.int .i64 0)).setCell ⟨w.heap.size, 10, none⟩ (.int .i64 0) = WW at hcells hfin ⊢
  have c0 := ceh hcells 0
  have c1 := ceh hcells 1
  have c2 := ceh hcells 2
  have c3 := ceh hcells 3
  have c4 := ceh hcells 4
  have c5 := ceh hcells 5
  have c6 := ceh hcells 6
  have c7 := ceh hcells 7
  have c8 := ceh hcells 8
  have c9 := ceh hcells 9
  have c10 := ceh hcells 10
  refine bodyPost_ret (v := .tuple #[.agg #[.bool false, .slice none 0 0, .slice none 0 0, .int .i64 0, .int .i64 0, .int .i64 0, .int .i64 0, .int .i64 0, .int .i64 0, .int .i64 0, .int .i64 0], .bool false]) (by simp [results, Tryz.results229, go_sem, c0, c1, c2, c3, c4, c5, c6, c7, c8, c9, c10]) rfl ?_
  exact hfin.out _ rfl
theorem word_badprefix (s v : ByteArray) (p0 p1 p2 p3 p4 p5 p6 : Int) (_b : Bool) (w : World) (hpos : 0 < s.size) (hmax : (s.size : Int) ≤ 9223372036854775807) (_he : ¬ s.toList = []) (he2 : s.toList.isEmpty = false) (hs : ∀ W, Hid (Calls Tryz.prog 242 #[.string s] W fun e w' => Below W.heap.size W w' ∧ ∃ (v : ByteArray) (y0 y1 y2 y3 y4 y5 y6 : Int) (b : Bool), e = .returned (.tuple #[.agg #[.string v, .int .i64 y0, .int .i64 y1, .int .i64 y2, .int .i64 y3, .int .i64 y4, .int .i64 y5, .int .i64 y6, .bool b], .bool false]))) (hpv : ∀ W, Hid (Calls Tryz.prog 243 #[.int .u8 (s[0]'hpos).toNat] W fun e w' => e = .returned (.string ⟨#[]⟩) ∧ W = w')) (hs2 : ∀ W, Hid (Calls Tryz.prog 242 #[.string (s.extract 1 s.size)] W fun e w' => Below W.heap.size W w' ∧ e = .returned (.tuple #[.agg #[.string v, .int .i64 p0, .int .i64 p1, .int .i64 p2, .int .i64 p3, .int .i64 p4, .int .i64 p5, .int .i64 p6, .bool true], .bool true]))) : Calls Tryz.prog 229 #[.string s] w (WordPost none w) := by
  have hrf := hiD (ResF.start w)
  have hle : w.heap.size ≤ w.heap.size := Nat.le_refl _
  go_enter Tryz.func229, Tryz.ntmps229
  go_wp2_with fail
  refine (hs _).out.mono ?_
  rintro e w2 ⟨hb2, v1, y0, y1, y2, y3, y4, y5, y6, bb1, rfl⟩
  have hrf3 := hiD ((hrf.out.next hb2).next (bea w2 (.cells #[.string v1, .int .i64 y0, .int .i64 y1, .int .i64 y2, .int .i64 y3, .int .i64 y4, .int .i64 y5, .int .i64 y6, .bool bb1] 235)))
  have hpv1 := hpv (w2.alloc (.cells #[.string v1, .int .i64 y0, .int .i64 y1, .int .i64 y2, .int .i64 y3, .int .i64 y4, .int .i64 y5, .int .i64 y6, .bool bb1] 235))
  clear hb2 hpv
  go_wp2_with fail
  refine hpv1.out.mono ?_
  rintro e w3 ⟨rfl, rfl⟩
  have hs21 := hs2 (w2.alloc (.cells #[.string v1, .int .i64 y0, .int .i64 y1, .int .i64 y2, .int .i64 y3, .int .i64 y4, .int .i64 y5, .int .i64 y6, .bool bb1] 235))
  clear hs2 hpv1
  go_wp2_with fail
  refine hs21.out.mono ?_
  rintro e w4 ⟨hb4, rfl⟩
  have Hrf := hiD ((hrf3.out.next hb4).next (bea w4 (.cells #[.string v, .int .i64 p0, .int .i64 p1, .int .i64 p2, .int .i64 p3, .int .i64 p4, .int .i64 p5, .int .i64 p6, .bool true] 235)))
  obtain ⟨z0, z1, z2, z3, z4, z5, z6, z7, z8, z9, z10, ⟨l0, l1, l2, l3, l4, l5, l6, l7, l8, l9, l10⟩, ⟨f0, f1, f2, f3, f4, f5, f6, f7, f8, f9, f10⟩⟩ := Hrf.out.slots
  have hfin : Hid (∀ W, W = ((((((((((((w4.alloc (.cells #[.string v, .int .i64 p0, .int .i64 p1, .int .i64 p2, .int .i64 p3, .int .i64 p4, .int .i64 p5, .int .i64 p6, .bool true] 235)).setCell ⟨w.heap.size, 0, none⟩ (.bool false)).setCell ⟨w.heap.size, 1, none⟩ (.slice none 0 0)).setCell ⟨w.heap.size, 2, none⟩ (.slice none 0 0)).setCell ⟨w.heap.size, 3, none⟩ (.int .i64 0)).setCell ⟨w.heap.size, 4, none⟩ (.int .i64 0)).setCell ⟨w.heap.size, 5, none⟩ (.int .i64 0)).setCell ⟨w.heap.size, 6, none⟩ (.int .i64 0)).setCell ⟨w.heap.size, 7, none⟩ (.int .i64 0)).setCell ⟨w.heap.size, 8, none⟩ (.int .i64 0)).setCell ⟨w.heap.size, 9, none⟩ (.int .i64 0)).setCell ⟨w.heap.size, 10, none⟩ (.int .i64 0)) → WordPost none w (.returned (.tuple #[.agg #[.bool false, .slice none 0 0, .slice none 0 0, .int .i64 0, .int .i64 0, .int .i64 0, .int .i64 0, .int .i64 0, .int .i64 0, .int .i64 0, .int .i64 0], .bool false])) W) := hiD (by
    rintro W rfl
    exact ⟨(Hrf.out.put hle (.bool false) (.slice none 0 0) (.slice none 0 0) (.int .i64 0) (.int .i64 0) (.int .i64 0) (.int .i64 0) (.int .i64 0) (.int .i64 0) (.int .i64 0) (.int .i64 0) ⟨nub _, nus _ _ _, nus _ _ _, nui _, nui _, nui _, nui _, nui _, nui _, nui _, nui _⟩).1.below, _, _, _, _, _, _, _, _, _, _, _, _, _, _, rfl, by rintro _ _ h; cases h⟩)
  clear hb4
  go_wp2_with fail
  have hcells := (Hrf.out.put hle (.bool false) (.slice none 0 0) (.slice none 0 0) (.int .i64 0) (.int .i64 0) (.int .i64 0) (.int .i64 0) (.int .i64 0) (.int .i64 0) (.int .i64 0) (.int .i64 0) ⟨nub _, nus _ _ _, nus _ _ _, nui _, nui _, nui _, nui _, nui _, nui _, nui _, nui _⟩).2
  generalize (((((((((((w4.alloc (.cells #[.string v, .int .i64 p0, .int .i64 p1, .int .i64 p2, .int .i64 p3, .int .i64 p4, .int .i64 p5, .int .i64 p6, .bool true] 235)).setCell ⟨w.heap.size, 0, none⟩ (.bool false)).setCell ⟨w.heap.size, 1, none⟩ (.slice none 0 0)).setCell ⟨w.heap.size, 2, none⟩ (.slice none 0 0)).setCell ⟨w.heap.size, 3, none⟩ (.int .i64 0)).setCell ⟨w.heap.size, 4, none⟩ (.int .i64 0)).setCell ⟨w.heap.size, 5, none⟩ (.int .i64 0)).setCell ⟨w.heap.size, 6, none⟩ (.int .i64 0)).setCell ⟨w.heap.size, 7, none⟩ (.int .i64 0)).setCell ⟨w.heap.size, 8, none⟩ (.int .i64 0)).setCell ⟨w.heap.size, 9, none⟩ (.int .i64 0)).setCell ⟨w.heap.size, 10, none⟩ (.int .i64 0) = WW at hcells hfin ⊢
  have c0 := ceh hcells 0
  have c1 := ceh hcells 1
  have c2 := ceh hcells 2
  have c3 := ceh hcells 3
  have c4 := ceh hcells 4
  have c5 := ceh hcells 5
  have c6 := ceh hcells 6
  have c7 := ceh hcells 7
  have c8 := ceh hcells 8
  have c9 := ceh hcells 9
  have c10 := ceh hcells 10
  refine bodyPost_ret (v := .tuple #[.agg #[.bool false, .slice none 0 0, .slice none 0 0, .int .i64 0, .int .i64 0, .int .i64 0, .int .i64 0, .int .i64 0, .int .i64 0, .int .i64 0, .int .i64 0], .bool false]) (by simp [results, Tryz.results229, go_sem, c0, c1, c2, c3, c4, c5, c6, c7, c8, c9, c10]) rfl ?_
  exact hfin.out _ rfl
theorem word_both (s v pv : ByteArray) (p0 p1 p2 p3 p4 p5 p6 : Int) (r1 r2 : Rat) (w : World) (hpos : 0 < s.size) (hmax : (s.size : Int) ≤ 9223372036854775807) (_he : ¬ s.toList = []) (he2 : s.toList.isEmpty = false) (_hp : ¬ pv.toList = []) (hp2 : pv.toList.isEmpty = false) (hs : ∀ W, Hid (Calls Tryz.prog 242 #[.string s] W fun e w' => Below W.heap.size W w' ∧ ∃ (v : ByteArray) (y0 y1 y2 y3 y4 y5 y6 : Int) (b : Bool), e = .returned (.tuple #[.agg #[.string v, .int .i64 y0, .int .i64 y1, .int .i64 y2, .int .i64 y3, .int .i64 y4, .int .i64 y5, .int .i64 y6, .bool b], .bool false]))) (hpv : ∀ W, Hid (Calls Tryz.prog 243 #[.int .u8 (s[0]'hpos).toNat] W fun e w' => e = .returned (.string pv) ∧ W = w')) (hs2 : ∀ W, Hid (Calls Tryz.prog 242 #[.string (s.extract 1 s.size)] W fun e w' => Below W.heap.size W w' ∧ e = .returned (.tuple #[.agg #[.string v, .int .i64 p0, .int .i64 p1, .int .i64 p2, .int .i64 p3, .int .i64 p4, .int .i64 p5, .int .i64 p6, .bool true], .bool true])))
    (hk1 : ∀ W, Hid (Calls Tryz.prog 227 #[.string pv] W (IsPost r1 20 W))) (hk2 : ∀ W, Hid (Calls Tryz.prog 227 #[.string v] W (IsPost r2 20 W))) : Calls Tryz.prog 229 #[.string s] w (WordPost (some (r1 * r2, [p0, p1, p2, p3, p4, p5, p6])) w) := by
  have hmul : Hid (∀ W x y, RatIs W x r1 20 → RatIs W y r2 20 → Calls Tryz.prog 81 #[x, y] W (IsPost (r1 * r2) 40 W)) := hiD fun W x y hx hy => mul_is x y r1 r2 20 W (by omega) hx hy
  generalize hr : r1 * r2 = r at hmul ⊢
  clear hr
  have hrf := hiD (ResF.start w)
  have hle : w.heap.size ≤ w.heap.size := Nat.le_refl _
  go_enter Tryz.func229, Tryz.ntmps229
  go_wp2_with fail
  refine (hs _).out.mono ?_
  rintro e w2 ⟨hb2, v1, y0, y1, y2, y3, y4, y5, y6, bb1, rfl⟩
  have hrf3 := hiD ((hrf.out.next hb2).next (bea w2 (.cells #[.string v1, .int .i64 y0, .int .i64 y1, .int .i64 y2, .int .i64 y3, .int .i64 y4, .int .i64 y5, .int .i64 y6, .bool bb1] 235)))
  have hpv1 := hpv (w2.alloc (.cells #[.string v1, .int .i64 y0, .int .i64 y1, .int .i64 y2, .int .i64 y3, .int .i64 y4, .int .i64 y5, .int .i64 y6, .bool bb1] 235))
  clear hb2 hpv
  go_wp2_with fail
  refine hpv1.out.mono ?_
  rintro e w3 ⟨rfl, rfl⟩
  have hs21 := hs2 (w2.alloc (.cells #[.string v1, .int .i64 y0, .int .i64 y1, .int .i64 y2, .int .i64 y3, .int .i64 y4, .int .i64 y5, .int .i64 y6, .bool bb1] 235))
  clear hs2 hpv1
  go_wp2_with fail
  refine hs21.out.mono ?_
  rintro e w4 ⟨hb4, rfl⟩
  have hrf4 := hiD (hrf3.out.next hb4)
  have hrf5 := hiD (hrf4.out.next (bea w4 (.cells #[.string v, .int .i64 p0, .int .i64 p1, .int .i64 p2, .int .i64 p3, .int .i64 p4, .int .i64 p5, .int .i64 p6, .bool true] 235)))
  have hk5 : Hid (Keep w (w4.alloc (.cells #[.string v, .int .i64 p0, .int .i64 p1, .int .i64 p2, .int .i64 p3, .int .i64 p4, .int .i64 p5, .int .i64 p6, .bool true] 235)) [(w4.heap.size, #[.string v, .int .i64 p0, .int .i64 p1, .int .i64 p2, .int .i64 p3, .int .i64 p4, .int .i64 p5, .int .i64 p6, .bool true], 235)]) := hiD ((Keep.mk hrf4.out.below (L := []) (fun _ h => by cases h)).more _ 235)
  have hne : Hid (∀ x ∈ ([(w4.heap.size, #[.string v, .int .i64 p0, .int .i64 p1, .int .i64 p2, .int .i64 p3, .int .i64 p4, .int .i64 p5, .int .i64 p6, .bool true], 235)] : List Blk), x.1 ≠ w.heap.size) := hiD (by
    have := hrf4.out.lt
    intro x hx
    simp only [List.mem_cons, List.not_mem_nil, or_false] at hx
    subst hx
    dsimp only; omega)
  obtain ⟨-, -, e0, e1, e2, e3, e4, e5, e6, e7⟩ := sym_all hk5.out hrf5.out
  clear hb4 hs21
  go_wp2_with fail
  go_region_held3 (fun w' => Keep w w' [(w4.heap.size, #[.string v, .int .i64 p0, .int .i64 p1, .int .i64 p2, .int .i64 p3, .int .i64 p4, .int .i64 p5, .int .i64 p6, .bool true], 235)] ∧ ResF w.heap.size w w' ∧ w'.cell? ⟨w4.heap.size, 0, none⟩ = some (.string v) ∧ w'.cell? ⟨w4.heap.size, 1, none⟩ = some (.int .i64 p0) ∧ w'.cell? ⟨w4.heap.size, 2, none⟩ = some (.int .i64 p1) ∧ w'.cell? ⟨w4.heap.size, 3, none⟩ = some (.int .i64 p2) ∧ w'.cell? ⟨w4.heap.size, 4, none⟩ = some (.int .i64 p3) ∧ w'.cell? ⟨w4.heap.size, 5, none⟩ = some (.int .i64 p4) ∧ w'.cell? ⟨w4.heap.size, 6, none⟩ = some (.int .i64 p5) ∧ w'.cell? ⟨w4.heap.size, 7, none⟩ = some (.int .i64 p6))
    (first | with_reducible exact sym_all (Keep.putF_far hkk hle hne.out _ _ _ _ _ _ _ _ _ _ _) (ResF.put hrk hle _ _ _ _ _ _ _ _ _ _ _ ⟨nub _, nus _ _ _, nus _ _ _, nui _, nui _, nui _, nui _, nui _, nui _, nui _, nui _⟩).1 | with_reducible exact sym_all (Keep.drew hk5.out) (ResF.drew hrf5.out) | (go_split_ands; with_reducible exact sym_all (Keep.next (by assumption) hb6) (ResF.next (by assumption) hb6)) | (go_split_ands; with_reducible exact sym_all (Keep.next (by assumption) hb7) (ResF.next (by assumption) hb7)) | (go_split_ands; with_reducible exact sym_all (Keep.next (by assumption) hb8) (ResF.next (by assumption) hb8)))
    (first | (go_at_call_of 227 pv; refine (hk1 _).out.mono ?_; rintro e w6 ⟨x1, rfl, hx1, hb6⟩) | (go_at_call_of 227 v; refine (hk2 _).out.mono ?_; rintro e w7 ⟨x2, rfl, hx2, hb7⟩) | (go_at_call 81; go_split_ands; refine (hmul.out _ _ _ (hx1.below hb7) hx2).mono ?_; rintro e w8 ⟨x, rfl, hx, hb8⟩; have hkk := Keep.next (by assumption) hb8; have hrk := ResF.next (by assumption) hb8; obtain ⟨b1, p, n, c, q, m, d, rfl⟩ := hx.agg; obtain ⟨z0, z1, z2, z3, z4, z5, z6, z7, z8, z9, z10, ⟨l0, l1, l2, l3, l4, l5, l6, l7, l8, l9, l10⟩, ⟨f0, f1, f2, f3, f4, f5, f6, f7, f8, f9, f10⟩⟩ := ResF.slots hrk))
  go_wp2_with fail
  have Hrf := hiD hrk
  have hfin : Hid (∀ W, W = ((((((((((((w8).setCell ⟨w.heap.size, 0, none⟩ (.bool b1)).setCell ⟨w.heap.size, 1, none⟩ (.slice p n c)).setCell ⟨w.heap.size, 2, none⟩ (.slice q m d)).setCell ⟨w.heap.size, 3, none⟩ (.int .i64 p0)).setCell ⟨w.heap.size, 4, none⟩ (.int .i64 p1)).setCell ⟨w.heap.size, 5, none⟩ (.int .i64 p2)).setCell ⟨w.heap.size, 6, none⟩ (.int .i64 p3)).setCell ⟨w.heap.size, 7, none⟩ (.int .i64 p4)).setCell ⟨w.heap.size, 8, none⟩ (.int .i64 p5)).setCell ⟨w.heap.size, 9, none⟩ (.int .i64 p6)).setCell ⟨w.heap.size, 10, none⟩ (.int .i64 0)) → WordPost (some (r, [p0, p1, p2, p3, p4, p5, p6])) w (.returned (.tuple #[.agg #[.bool b1, .slice p n c, .slice q m d, .int .i64 p0, .int .i64 p1, .int .i64 p2, .int .i64 p3, .int .i64 p4, .int .i64 p5, .int .i64 p6, .int .i64 0], .bool true])) W) := hiD (by
    rintro W rfl
    refine ⟨(Hrf.out.put hle (.bool b1) (.slice p n c) (.slice q m d) (.int .i64 p0) (.int .i64 p1) (.int .i64 p2) (.int .i64 p3) (.int .i64 p4) (.int .i64 p5) (.int .i64 p6) (.int .i64 0) ⟨nub _, nus _ _ _, nus _ _ _, nui _, nui _, nui _, nui _, nui _, nui _, nui _, nui _⟩).1.below, _, _, _, _, _, _, _, _, _, _, _, _, _, _, rfl, ?_⟩
    rintro _ _ h
    cases h
    exact ⟨Hrf.out.rat hx (.bool b1) (.slice p n c) (.slice q m d) (.int .i64 p0) (.int .i64 p1) (.int .i64 p2) (.int .i64 p3) (.int .i64 p4) (.int .i64 p5) (.int .i64 p6) (.int .i64 0) ⟨nub _, nus _ _ _, nus _ _ _, nui _, nui _, nui _, nui _, nui _, nui _, nui _, nui _⟩, rfl⟩)
  have hcells := (Hrf.out.put hle (.bool b1) (.slice p n c) (.slice q m d) (.int .i64 p0) (.int .i64 p1) (.int .i64 p2) (.int .i64 p3) (.int .i64 p4) (.int .i64 p5) (.int .i64 p6) (.int .i64 0) ⟨nub _, nus _ _ _, nus _ _ _, nui _, nui _, nui _, nui _, nui _, nui _, nui _, nui _⟩).2
  generalize (((((((((((w8).setCell ⟨w.heap.size, 0, none⟩ (.bool b1)).setCell ⟨w.heap.size, 1, none⟩ (.slice p n c)).setCell ⟨w.heap.size, 2, none⟩ (.slice q m d)).setCell ⟨w.heap.size, 3, none⟩ (.int .i64 p0)).setCell ⟨w.heap.size, 4, none⟩ (.int .i64 p1)).setCell ⟨w.heap.size, 5, none⟩ (.int .i64 p2)).setCell ⟨w.heap.size, 6, none⟩ (.int .i64 p3)).setCell ⟨w.heap.size, 7, none⟩ (.int .i64 p4)).setCell ⟨w.heap.size, 8, none⟩ (.int .i64 p5)).setCell ⟨w.heap.size, 9, none⟩ (.int .i64 p6)).setCell ⟨w.heap.size, 10, none⟩ (.int .i64 0) = WW at hcells hfin ⊢
  have c0 := ceh hcells 0
  have c1 := ceh hcells 1
  have c2 := ceh hcells 2
  have c3 := ceh hcells 3
  have c4 := ceh hcells 4
  have c5 := ceh hcells 5
  have c6 := ceh hcells 6
  have c7 := ceh hcells 7
  have c8 := ceh hcells 8
  have c9 := ceh hcells 9
  have c10 := ceh hcells 10
  refine bodyPost_ret (v := .tuple #[.agg #[.bool b1, .slice p n c, .slice q m d, .int .i64 p0, .int .i64 p1, .int .i64 p2, .int .i64 p3, .int .i64 p4, .int .i64 p5, .int .i64 p6, .int .i64 0], .bool true]) (by simp [results, Tryz.results229, go_sem, c0, c1, c2, c3, c4, c5, c6, c7, c8, c9, c10]) rfl ?_
  exact hfin.out _ rfl
theorem symT_read {l : List UInt8} {v : List UInt8} {ps : List Int} {b : Bool} (h : symT l = some (v, ps, b)) : v.length ≤ 90 ∧ ∃ sg n d, readL v = some (sg, n, d) := by
  have key : ∀ v' : List UInt8, v' ∈ ([[49], [49, 47, 49, 48, 48, 48], [54, 48], [51, 54, 48, 48], [56, 54, 52, 48, 48], [49, 48, 48, 48], [49, 48, 48, 48, 48, 48]] : List (List UInt8)) → v'.length ≤ 90 ∧ ∃ sg n d, readL v' = some (sg, n, d) := by
    intro v' hv
    simp only [List.mem_cons, List.not_mem_nil, or_false] at hv
    rcases hv with rfl | rfl | rfl | rfl | rfl | rfl | rfl
    · exact ⟨by decide, false, 1, 1, rfl⟩
    · exact ⟨by decide, false, 1, 1000, rfl⟩
    · exact ⟨by decide, false, 60, 1, rfl⟩
    · exact ⟨by decide, false, 3600, 1, rfl⟩
    · exact ⟨by decide, false, 86400, 1, rfl⟩
    · exact ⟨by decide, false, 1000, 1, rfl⟩
    · exact ⟨by decide, false, 100000, 1, rfl⟩
  apply key
  unfold symT at h
  by_cases c0 : (l == [109]) = true
  · rw [if_pos c0] at h; simp only [Option.some.injEq, Prod.mk.injEq] at h; obtain ⟨rfl, -, -⟩ := h; simp
  rw [if_neg c0] at h
  by_cases c1 : (l == [103]) = true
  · rw [if_pos c1] at h; simp only [Option.some.injEq, Prod.mk.injEq] at h; obtain ⟨rfl, -, -⟩ := h; simp
  rw [if_neg c1] at h
  by_cases c2 : (l == [115]) = true
  · rw [if_pos c2] at h; simp only [Option.some.injEq, Prod.mk.injEq] at h; obtain ⟨rfl, -, -⟩ := h; simp
  rw [if_neg c2] at h
  by_cases c3 : (l == [75]) = true
  · rw [if_pos c3] at h; simp only [Option.some.injEq, Prod.mk.injEq] at h; obtain ⟨rfl, -, -⟩ := h; simp
  rw [if_neg c3] at h
  by_cases c4 : (l == [109, 111, 108]) = true
  · rw [if_pos c4] at h; simp only [Option.some.injEq, Prod.mk.injEq] at h; obtain ⟨rfl, -, -⟩ := h; simp
  rw [if_neg c4] at h
  by_cases c5 : (l == [65]) = true
  · rw [if_pos c5] at h; simp only [Option.some.injEq, Prod.mk.injEq] at h; obtain ⟨rfl, -, -⟩ := h; simp
  rw [if_neg c5] at h
  by_cases c6 : (l == [99, 100]) = true
  · rw [if_pos c6] at h; simp only [Option.some.injEq, Prod.mk.injEq] at h; obtain ⟨rfl, -, -⟩ := h; simp
  rw [if_neg c6] at h
  by_cases c7 : (l == [109, 105, 110]) = true
  · rw [if_pos c7] at h; simp only [Option.some.injEq, Prod.mk.injEq] at h; obtain ⟨rfl, -, -⟩ := h; simp
  rw [if_neg c7] at h
  by_cases c8 : (l == [104]) = true
  · rw [if_pos c8] at h; simp only [Option.some.injEq, Prod.mk.injEq] at h; obtain ⟨rfl, -, -⟩ := h; simp
  rw [if_neg c8] at h
  by_cases c9 : (l == [100]) = true
  · rw [if_pos c9] at h; simp only [Option.some.injEq, Prod.mk.injEq] at h; obtain ⟨rfl, -, -⟩ := h; simp
  rw [if_neg c9] at h
  by_cases c10 : (l == [116]) = true
  · rw [if_pos c10] at h; simp only [Option.some.injEq, Prod.mk.injEq] at h; obtain ⟨rfl, -, -⟩ := h; simp
  rw [if_neg c10] at h
  by_cases c11 : (l == [76]) = true
  · rw [if_pos c11] at h; simp only [Option.some.injEq, Prod.mk.injEq] at h; obtain ⟨rfl, -, -⟩ := h; simp
  rw [if_neg c11] at h
  by_cases c12 : (l == [72, 122]) = true
  · rw [if_pos c12] at h; simp only [Option.some.injEq, Prod.mk.injEq] at h; obtain ⟨rfl, -, -⟩ := h; simp
  rw [if_neg c12] at h
  by_cases c13 : (l == [78]) = true
  · rw [if_pos c13] at h; simp only [Option.some.injEq, Prod.mk.injEq] at h; obtain ⟨rfl, -, -⟩ := h; simp
  rw [if_neg c13] at h
  by_cases c14 : (l == [80, 97]) = true
  · rw [if_pos c14] at h; simp only [Option.some.injEq, Prod.mk.injEq] at h; obtain ⟨rfl, -, -⟩ := h; simp
  rw [if_neg c14] at h
  by_cases c15 : (l == [74]) = true
  · rw [if_pos c15] at h; simp only [Option.some.injEq, Prod.mk.injEq] at h; obtain ⟨rfl, -, -⟩ := h; simp
  rw [if_neg c15] at h
  by_cases c16 : (l == [87]) = true
  · rw [if_pos c16] at h; simp only [Option.some.injEq, Prod.mk.injEq] at h; obtain ⟨rfl, -, -⟩ := h; simp
  rw [if_neg c16] at h
  by_cases c17 : (l == [98, 97, 114]) = true
  · rw [if_pos c17] at h; simp only [Option.some.injEq, Prod.mk.injEq] at h; obtain ⟨rfl, -, -⟩ := h; simp
  rw [if_neg c17] at h
  cases h
theorem symT_len {l : List UInt8} {v : List UInt8} {ps : List Int} {b : Bool} (h : symT l = some (v, ps, b)) : ∃ p0 p1 p2 p3 p4 p5 p6, ps = [p0, p1, p2, p3, p4, p5, p6] := by
  have : ps.length = 7 := by
    unfold symT at h
    by_cases c0 : (l == [109]) = true
    · rw [if_pos c0] at h; simp only [Option.some.injEq, Prod.mk.injEq] at h; obtain ⟨-, rfl, -⟩ := h; rfl
    rw [if_neg c0] at h
    by_cases c1 : (l == [103]) = true
    · rw [if_pos c1] at h; simp only [Option.some.injEq, Prod.mk.injEq] at h; obtain ⟨-, rfl, -⟩ := h; rfl
    rw [if_neg c1] at h
    by_cases c2 : (l == [115]) = true
    · rw [if_pos c2] at h; simp only [Option.some.injEq, Prod.mk.injEq] at h; obtain ⟨-, rfl, -⟩ := h; rfl
    rw [if_neg c2] at h
    by_cases c3 : (l == [75]) = true
    · rw [if_pos c3] at h; simp only [Option.some.injEq, Prod.mk.injEq] at h; obtain ⟨-, rfl, -⟩ := h; rfl
    rw [if_neg c3] at h
    by_cases c4 : (l == [109, 111, 108]) = true
    · rw [if_pos c4] at h; simp only [Option.some.injEq, Prod.mk.injEq] at h; obtain ⟨-, rfl, -⟩ := h; rfl
    rw [if_neg c4] at h
    by_cases c5 : (l == [65]) = true
    · rw [if_pos c5] at h; simp only [Option.some.injEq, Prod.mk.injEq] at h; obtain ⟨-, rfl, -⟩ := h; rfl
    rw [if_neg c5] at h
    by_cases c6 : (l == [99, 100]) = true
    · rw [if_pos c6] at h; simp only [Option.some.injEq, Prod.mk.injEq] at h; obtain ⟨-, rfl, -⟩ := h; rfl
    rw [if_neg c6] at h
    by_cases c7 : (l == [109, 105, 110]) = true
    · rw [if_pos c7] at h; simp only [Option.some.injEq, Prod.mk.injEq] at h; obtain ⟨-, rfl, -⟩ := h; rfl
    rw [if_neg c7] at h
    by_cases c8 : (l == [104]) = true
    · rw [if_pos c8] at h; simp only [Option.some.injEq, Prod.mk.injEq] at h; obtain ⟨-, rfl, -⟩ := h; rfl
    rw [if_neg c8] at h
    by_cases c9 : (l == [100]) = true
    · rw [if_pos c9] at h; simp only [Option.some.injEq, Prod.mk.injEq] at h; obtain ⟨-, rfl, -⟩ := h; rfl
    rw [if_neg c9] at h
    by_cases c10 : (l == [116]) = true
    · rw [if_pos c10] at h; simp only [Option.some.injEq, Prod.mk.injEq] at h; obtain ⟨-, rfl, -⟩ := h; rfl
    rw [if_neg c10] at h
    by_cases c11 : (l == [76]) = true
    · rw [if_pos c11] at h; simp only [Option.some.injEq, Prod.mk.injEq] at h; obtain ⟨-, rfl, -⟩ := h; rfl
    rw [if_neg c11] at h
    by_cases c12 : (l == [72, 122]) = true
    · rw [if_pos c12] at h; simp only [Option.some.injEq, Prod.mk.injEq] at h; obtain ⟨-, rfl, -⟩ := h; rfl
    rw [if_neg c12] at h
    by_cases c13 : (l == [78]) = true
    · rw [if_pos c13] at h; simp only [Option.some.injEq, Prod.mk.injEq] at h; obtain ⟨-, rfl, -⟩ := h; rfl
    rw [if_neg c13] at h
    by_cases c14 : (l == [80, 97]) = true
    · rw [if_pos c14] at h; simp only [Option.some.injEq, Prod.mk.injEq] at h; obtain ⟨-, rfl, -⟩ := h; rfl
    rw [if_neg c14] at h
    by_cases c15 : (l == [74]) = true
    · rw [if_pos c15] at h; simp only [Option.some.injEq, Prod.mk.injEq] at h; obtain ⟨-, rfl, -⟩ := h; rfl
    rw [if_neg c15] at h
    by_cases c16 : (l == [87]) = true
    · rw [if_pos c16] at h; simp only [Option.some.injEq, Prod.mk.injEq] at h; obtain ⟨-, rfl, -⟩ := h; rfl
    rw [if_neg c16] at h
    by_cases c17 : (l == [98, 97, 114]) = true
    · rw [if_pos c17] at h; simp only [Option.some.injEq, Prod.mk.injEq] at h; obtain ⟨-, rfl, -⟩ := h; rfl
    rw [if_neg c17] at h
    cases h
  match ps, this with
  | [x0, x1, x2, x3, x4, x5, x6], _ => exact ⟨_, _, _, _, _, _, _, rfl⟩
theorem preT_read {c : UInt8} (h : preT c ≠ []) : (preT c).length ≤ 90 ∧ ∃ sg n d, readL (preT c) = some (sg, n, d) := by
  unfold preT at h ⊢
  split
  · exact ⟨by decide, false, 1, 1000000000, rfl⟩
  split
  · exact ⟨by decide, false, 1, 1000000, rfl⟩
  split
  · exact ⟨by decide, false, 1, 1000, rfl⟩
  split
  · exact ⟨by decide, false, 1, 100, rfl⟩
  split
  · exact ⟨by decide, false, 1, 10, rfl⟩
  split
  · exact ⟨by decide, false, 100, 1, rfl⟩
  split
  · exact ⟨by decide, false, 1000, 1, rfl⟩
  split
  · exact ⟨by decide, false, 1000000, 1, rfl⟩
  split
  · exact ⟨by decide, false, 1000000000, 1, rfl⟩
  · simp_all
theorem findWord_any (s : ByteArray) (w : World) (hmax : s.size ≤ 100000) : Calls Tryz.prog 229 #[.string s] w (WordPost (wordT s.data.toList) w) := by
  have hsym : ∀ (t : ByteArray) W, Calls Tryz.prog 242 #[.string t] W (SymPost (symT t.data.toList) W) := fun t W => findSymbol_any t W
  have hkn : ∀ (t : ByteArray) (l : List UInt8), t.data.toList = l → l.length ≤ 90 → (∃ sg n d, readL l = some (sg, n, d)) → ∀ W, Hid (Calls Tryz.prog 227 #[.string t] W (IsPost (readR l) 20 W)) := by
    rintro t l rfl hl ⟨sg, n, d, hr⟩ W
    exact hiD (known_any t sg n d W (by simpa using hl) hr)
  unfold wordT
  cases h1 : symT s.data.toList with
  | some x =>
    obtain ⟨v, ps, b⟩ := x
    simp only
    have hs := hsym s
    rw [h1] at hs
    obtain ⟨r1, r2⟩ := symT_read h1
    -- the value and the powers of this symbol, whatever the call's own cells are called
    have hlen := symT_len h1
    obtain ⟨p0, p1, p2, p3, p4, p5, p6, rfl⟩ := hlen
    refine word_sym s ⟨v.toArray⟩ p0 p1 p2 p3 p4 p5 p6 b (readR v) w (fun W => hiD ((hs W).mono fun e w' h => ?_)) (hkn ⟨v.toArray⟩ v rfl r1 r2)
    obtain ⟨hb, v', y0, y1, y2, y3, y4, y5, y6, b', he, hx⟩ := h
    obtain ⟨e1, e2, e3⟩ := hx _ _ _ rfl
    refine ⟨hb, ?_⟩
    rw [he]
    simp only [List.cons.injEq, and_true] at e2
    obtain ⟨rfl, rfl, rfl, rfl, rfl, rfl, rfl⟩ := e2
    subst e3
    have : v' = ⟨v.toArray⟩ := by
      rw [← e1]
    rw [this]; rfl
  | none =>
    have hs : ∀ W, Hid (Calls Tryz.prog 242 #[.string s] W fun e w' => Below W.heap.size W w' ∧ ∃ (v : ByteArray) (y0 y1 y2 y3 y4 y5 y6 : Int) (b : Bool), e = .returned (.tuple #[.agg #[.string v, .int .i64 y0, .int .i64 y1, .int .i64 y2, .int .i64 y3, .int .i64 y4, .int .i64 y5, .int .i64 y6, .bool b], .bool false])) := fun W => hiD (by
      have := hsym s W
      rw [h1] at this
      refine this.mono fun e w' h => ⟨h.1, ?_⟩
      obtain ⟨-, v', y0, y1, y2, y3, y4, y5, y6, b', he, -⟩ := h
      exact ⟨v', y0, y1, y2, y3, y4, y5, y6, b', he⟩)
    simp only
    cases hd : s.data.toList with
    | nil =>
      exact word_empty s w (by rw [Lib.toList_data]; exact hd) hs
    | cons c t =>
      have hpos : 0 < s.size := by
        have := congrArg List.length hd
        simp at this; omega
      have hc : s[0]'hpos = c := by
        have : s.data.toList[0]'(by rw [hd]; simp) = c := by simp [hd]
        exact this
      have he : ¬ s.toList = [] := by rw [Lib.toList_data, hd]; simp
      have he2 : s.toList.isEmpty = false := by rw [Lib.toList_data, hd]; rfl
      have hmx : (s.size : Int) ≤ 9223372036854775807 := by omega
      have hpv : ∀ W, Hid (Calls Tryz.prog 243 #[.int .u8 (s[0]'hpos).toNat] W fun e w' => e = .returned (.string ⟨(preT c).toArray⟩) ∧ W = w') := fun W => hiD (by rw [hc]; exact prefixValue_any c W)
      have ht : (s.extract 1 s.size).data.toList = t := by
        rw [Lib.extract_to_end]
        rw [hd]; rfl
      have hs2 := hsym (s.extract 1 s.size)
      rw [ht] at hs2
      simp only
      cases h2 : symT t with
      | none =>
        rw [h2] at hs2
        have hs2n : ∀ W, Calls Tryz.prog 242 #[.string (s.extract 1 s.size)] W fun e w' => Below W.heap.size W w' ∧ ∃ (v : ByteArray) (y0 y1 y2 y3 y4 y5 y6 : Int) (b : Bool), e = .returned (.tuple #[.agg #[.string v, .int .i64 y0, .int .i64 y1, .int .i64 y2, .int .i64 y3, .int .i64 y4, .int .i64 y5, .int .i64 y6, .bool b], .bool false]) := fun W => (hs2 W).mono fun e w' h => ⟨h.1, by
          obtain ⟨-, v', y0, y1, y2, y3, y4, y5, y6, b', he, -⟩ := h
          exact ⟨v', y0, y1, y2, y3, y4, y5, y6, b', he⟩⟩
        exact word_no2 s ⟨(preT c).toArray⟩ w hpos hmx he he2 hs hpv fun W => hiD (hs2n W)
      | some x =>
        obtain ⟨v, ps, b⟩ := x
        rw [h2] at hs2
        obtain ⟨r1, r2⟩ := symT_read h2
        have hlen := symT_len h2
        obtain ⟨p0, p1, p2, p3, p4, p5, p6, rfl⟩ := hlen
        have hs2' : ∀ W, Hid (Calls Tryz.prog 242 #[.string (s.extract 1 s.size)] W fun e w' => Below W.heap.size W w' ∧ e = .returned (.tuple #[.agg #[.string ⟨v.toArray⟩, .int .i64 p0, .int .i64 p1, .int .i64 p2, .int .i64 p3, .int .i64 p4, .int .i64 p5, .int .i64 p6, .bool b], .bool true])) := fun W => hiD ((hs2 W).mono fun e w' h => by
          obtain ⟨hb, v', y0, y1, y2, y3, y4, y5, y6, b', he, hx⟩ := h
          obtain ⟨e1, e2, e3⟩ := hx _ _ _ rfl
          refine ⟨hb, ?_⟩
          rw [he]
          simp only [List.cons.injEq, and_true] at e2
          obtain ⟨rfl, rfl, rfl, rfl, rfl, rfl, rfl⟩ := e2
          subst e3
          have : v' = ⟨v.toArray⟩ := by rw [← e1]
          rw [this]; rfl)
        cases b with
        | false => exact word_noprefix s ⟨v.toArray⟩ ⟨(preT c).toArray⟩ p0 p1 p2 p3 p4 p5 p6 false w hpos hmx he he2 hs hpv hs2'
        | true =>
          simp only
          by_cases hp : preT c = []
          · rw [if_pos hp]
            rw [hp] at hpv
            exact word_badprefix s ⟨v.toArray⟩ p0 p1 p2 p3 p4 p5 p6 true w hpos hmx he he2 hs hpv hs2'
          · rw [if_neg hp]
            obtain ⟨q1, q2⟩ := preT_read hp
            exact word_both s ⟨v.toArray⟩ ⟨(preT c).toArray⟩ p0 p1 p2 p3 p4 p5 p6 _ _ w hpos hmx he he2 (by rw [Lib.toList_data]; exact hp) (by rw [Lib.toList_data]; simpa using hp) hs hpv hs2' (hkn _ _ rfl q1 q2) (hkn _ _ rfl r1 r2)
end Go.Proofs.YtoegbjmoecbjdaaGreatDoor
