/- Texts of units: scanNumber, its ways. -/
import Derived.Test.YtoegbjmoecbjdaaGreatDoorPart15
set_option maxHeartbeats 1600000
set_option maxRecDepth 100000
namespace Go.Proofs.YtoegbjmoecbjdaaGreatDoor
open Go.RowKit Go.Lib Big
theorem num_err_end (s : ByteArray) (n : Nat) (x : List UInt8) (er : Int) (her : (er != 0) = true) (w : World) (hn : n ≤ s.size) (_hmax : (s.size : Int) ≤ 100000) (hend : ¬ (n : Int) < s.size) (hcd : ∀ W, Hid (Calls Tryz.prog 193 #[.string s] W fun e w' => e = .returned (.int .i64 n) ∧ W = w')) (hpa : ∀ W, Below w.heap.size w W → Hid (Calls Tryz.prog 15 #[.string (s.extract 0 n)] W (PairPost (x, er) W))) : Calls Tryz.prog 194 #[.string s] w (ScanPost none w) := by
  have hrf := hiD (ResF.start w)
  have hle : w.heap.size ≤ w.heap.size := Nat.le_refl _
  go_enter Tryz.func194, Tryz.ntmps194
  go_wp2_with fail
  refine (hcd _).out.mono ?_
  rintro e w1 ⟨rfl, rfl⟩
  go_wp2_with fail
  have hp := hpa _ hrf.out.below
  refine hp.out.mono ?_
  rintro e w3 ⟨rfl, hb3⟩
  have Hrf := hiD (hrf.out.next hb3)
  obtain ⟨z0, z1, z2, z3, z4, z5, z6, z7, z8, z9, z10, ⟨l0, l1, l2, l3, l4, l5, l6, l7, l8, l9, l10⟩, ⟨f0, f1, f2, f3, f4, f5, f6, f7, f8, f9, f10⟩⟩ := Hrf.out.slots
  have hfin : Hid (∀ W, W = ((((((((((((w3).setCell ⟨w.heap.size, 0, none⟩ (.bool false)).setCell ⟨w.heap.size, 1, none⟩ (.slice none 0 0)).setCell ⟨w.heap.size, 2, none⟩ (.slice none 0 0)).setCell ⟨w.heap.size, 3, none⟩ (.int .i64 0)).setCell ⟨w.heap.size, 4, none⟩ (.int .i64 0)).setCell ⟨w.heap.size, 5, none⟩ (.int .i64 0)).setCell ⟨w.heap.size, 6, none⟩ (.int .i64 0)).setCell ⟨w.heap.size, 7, none⟩ (.int .i64 0)).setCell ⟨w.heap.size, 8, none⟩ (.int .i64 0)).setCell ⟨w.heap.size, 9, none⟩ (.int .i64 0)).setCell ⟨w.heap.size, 10, none⟩ (.int .i64 0)) → ScanPost none w (.returned (.tuple #[.agg #[.bool false, .slice none 0 0, .slice none 0 0, .int .i64 0, .int .i64 0, .int .i64 0, .int .i64 0, .int .i64 0, .int .i64 0, .int .i64 0, .int .i64 0], .int .i64 0])) W) := hiD (by
    rintro W rfl
    exact ⟨(Hrf.out.put hle (.bool false) (.slice none 0 0) (.slice none 0 0) (.int .i64 0) (.int .i64 0) (.int .i64 0) (.int .i64 0) (.int .i64 0) (.int .i64 0) (.int .i64 0) (.int .i64 0) ⟨nub _, nus _ _ _, nus _ _ _, nui _, nui _, nui _, nui _, nui _, nui _, nui _, nui _⟩).1.below, _, _, _, _, _, _, _, _, _, _, _, _, _, _, _, rfl, by rintro _ _ h; cases h⟩)
  clear hb3
  go_wp2_with fail
  have hcells := (Hrf.out.put hle (.bool false) (.slice none 0 0) (.slice none 0 0) (.int .i64 0) (.int .i64 0) (.int .i64 0) (.int .i64 0) (.int .i64 0) (.int .i64 0) (.int .i64 0) (.int .i64 0) ⟨nub _, nus _ _ _, nus _ _ _, nui _, nui _, nui _, nui _, nui _, nui _, nui _, nui _⟩).2
  generalize (((((((((((w3).setCell ⟨w.heap.size, 0, none⟩ (.bool false)).setCell ⟨w.heap.size, 1, none⟩ (.slice none 0 0)).setCell ⟨w.heap.size, 2, none⟩ (.slice none 0 0)).setCell ⟨w.heap.size, 3, none⟩ (.int .i64 0)).setCell ⟨w.heap.size, 4, none⟩ (.int .i64 0)).setCell ⟨w.heap.size, 5, none⟩ (.int .i64 0)).setCell ⟨w.heap.size, 6, none⟩ (.int .i64 0)).setCell ⟨w.heap.size, 7, none⟩ (.int .i64 0)).setCell ⟨w.heap.size, 8, none⟩ (.int .i64 0)).setCell ⟨w.heap.size, 9, none⟩ (.int .i64 0)).setCell ⟨w.heap.size, 10, none⟩ (.int .i64 0) = WW at hcells hfin ⊢
  have c0 := ceh hcells 0
  have c1 := ceh hcells 1
  have c2 := ceh hcells 2
  have c3 := ceh hcells 3
  have c4 := ceh hcells 4
  have c5 := ceh hcells 5
  have c6 := ceh hcells 6
  have c7 := ceh hcells 7
  have c8 := ceh hcells 8
  have c9 := ceh hcells 9
  have c10 := ceh hcells 10
  refine bodyPost_ret (v := .tuple #[.agg #[.bool false, .slice none 0 0, .slice none 0 0, .int .i64 0, .int .i64 0, .int .i64 0, .int .i64 0, .int .i64 0, .int .i64 0, .int .i64 0, .int .i64 0], .int .i64 0]) (by simp [results, Tryz.results194, go_sem, c0, c1, c2, c3, c4, c5, c6, c7, c8, c9, c10]) rfl ?_
  exact hfin.out _ rfl
theorem num_zero_end (s : ByteArray) (n : Nat) (w : World) (hn : n ≤ s.size) (_hmax : (s.size : Int) ≤ 100000) (hend : ¬ (n : Int) < s.size) (hcd : ∀ W, Hid (Calls Tryz.prog 193 #[.string s] W fun e w' => e = .returned (.int .i64 n) ∧ W = w')) (hpa : ∀ W, Below w.heap.size w W → Hid (Calls Tryz.prog 15 #[.string (s.extract 0 n)] W (PairPost ([48], 0) W))) : Calls Tryz.prog 194 #[.string s] w (ScanPost none w) := by
  have hrf := hiD (ResF.start w)
  have hle : w.heap.size ≤ w.heap.size := Nat.le_refl _
  go_enter Tryz.func194, Tryz.ntmps194
  go_wp2_with fail
  refine (hcd _).out.mono ?_
  rintro e w1 ⟨rfl, rfl⟩
  go_wp2_with fail
  have hp := hpa _ hrf.out.below
  refine hp.out.mono ?_
  rintro e w3 ⟨rfl, hb3⟩
  have Hrf := hiD (hrf.out.next hb3)
  obtain ⟨z0, z1, z2, z3, z4, z5, z6, z7, z8, z9, z10, ⟨l0, l1, l2, l3, l4, l5, l6, l7, l8, l9, l10⟩, ⟨f0, f1, f2, f3, f4, f5, f6, f7, f8, f9, f10⟩⟩ := Hrf.out.slots
  have hfin : Hid (∀ W, W = ((((((((((((w3).setCell ⟨w.heap.size, 0, none⟩ (.bool false)).setCell ⟨w.heap.size, 1, none⟩ (.slice none 0 0)).setCell ⟨w.heap.size, 2, none⟩ (.slice none 0 0)).setCell ⟨w.heap.size, 3, none⟩ (.int .i64 0)).setCell ⟨w.heap.size, 4, none⟩ (.int .i64 0)).setCell ⟨w.heap.size, 5, none⟩ (.int .i64 0)).setCell ⟨w.heap.size, 6, none⟩ (.int .i64 0)).setCell ⟨w.heap.size, 7, none⟩ (.int .i64 0)).setCell ⟨w.heap.size, 8, none⟩ (.int .i64 0)).setCell ⟨w.heap.size, 9, none⟩ (.int .i64 0)).setCell ⟨w.heap.size, 10, none⟩ (.int .i64 0)) → ScanPost none w (.returned (.tuple #[.agg #[.bool false, .slice none 0 0, .slice none 0 0, .int .i64 0, .int .i64 0, .int .i64 0, .int .i64 0, .int .i64 0, .int .i64 0, .int .i64 0, .int .i64 0], .int .i64 0])) W) := hiD (by
    rintro W rfl
    exact ⟨(Hrf.out.put hle (.bool false) (.slice none 0 0) (.slice none 0 0) (.int .i64 0) (.int .i64 0) (.int .i64 0) (.int .i64 0) (.int .i64 0) (.int .i64 0) (.int .i64 0) (.int .i64 0) ⟨nub _, nus _ _ _, nus _ _ _, nui _, nui _, nui _, nui _, nui _, nui _, nui _, nui _⟩).1.below, _, _, _, _, _, _, _, _, _, _, _, _, _, _, _, rfl, by rintro _ _ h; cases h⟩)
  clear hb3
  go_wp2_with fail
  have hcells := (Hrf.out.put hle (.bool false) (.slice none 0 0) (.slice none 0 0) (.int .i64 0) (.int .i64 0) (.int .i64 0) (.int .i64 0) (.int .i64 0) (.int .i64 0) (.int .i64 0) (.int .i64 0) ⟨nub _, nus _ _ _, nus _ _ _, nui _, nui _, nui _, nui _, nui _, nui _, nui _, nui _⟩).2
  generalize (((((((((((w3).setCell ⟨w.heap.size, 0, none⟩ (.bool false)).setCell ⟨w.heap.size, 1, none⟩ (.slice none 0 0)).setCell ⟨w.heap.size, 2, none⟩ (.slice none 0 0)).setCell ⟨w.heap.size, 3, none⟩ (.int .i64 0)).setCell ⟨w.heap.size, 4, none⟩ (.int .i64 0)).setCell ⟨w.heap.size, 5, none⟩ (.int .i64 0)).setCell ⟨w.heap.size, 6, none⟩ (.int .i64 0)).setCell ⟨w.heap.size, 7, none⟩ (.int .i64 0)).setCell ⟨w.heap.size, 8, none⟩ (.int .i64 0)).setCell ⟨w.heap.size, 9, none⟩ (.int .i64 0)).setCell ⟨w.heap.size, 10, none⟩ (.int .i64 0) = WW at hcells hfin ⊢
  have c0 := ceh hcells 0
  have c1 := ceh hcells 1
  have c2 := ceh hcells 2
  have c3 := ceh hcells 3
  have c4 := ceh hcells 4
  have c5 := ceh hcells 5
  have c6 := ceh hcells 6
  have c7 := ceh hcells 7
  have c8 := ceh hcells 8
  have c9 := ceh hcells 9
  have c10 := ceh hcells 10
  refine bodyPost_ret (v := .tuple #[.agg #[.bool false, .slice none 0 0, .slice none 0 0, .int .i64 0, .int .i64 0, .int .i64 0, .int .i64 0, .int .i64 0, .int .i64 0, .int .i64 0, .int .i64 0], .int .i64 0]) (by simp [results, Tryz.results194, go_sem, c0, c1, c2, c3, c4, c5, c6, c7, c8, c9, c10]) rfl ?_
  exact hfin.out _ rfl
theorem num_ok_end (s : ByteArray) (n : Nat) (x : List UInt8) (r : Rat) (hx1 : (x == [48]) = false) (_hx2 : ¬ x = [48]) (hkn : ∀ W, Hid (Calls Tryz.prog 227 #[.string ⟨x.toArray⟩] W (IsPost r 20 W))) (w : World) (hn : n ≤ s.size) (_hmax : (s.size : Int) ≤ 100000) (hend : ¬ (n : Int) < s.size) (hcd : ∀ W, Hid (Calls Tryz.prog 193 #[.string s] W fun e w' => e = .returned (.int .i64 n) ∧ W = w')) (hpa : ∀ W, Below w.heap.size w W → Hid (Calls Tryz.prog 15 #[.string (s.extract 0 n)] W (PairPost (x, 0) W))) : Calls Tryz.prog 194 #[.string s] w (ScanPost (some (⟨r, noPs, 1⟩, n)) w) := by
  have hrf := hiD (ResF.start w)
  have hle : w.heap.size ≤ w.heap.size := Nat.le_refl _
  go_enter Tryz.func194, Tryz.ntmps194
  go_wp2_with fail
  refine (hcd _).out.mono ?_
  rintro e w1 ⟨rfl, rfl⟩
  go_wp2_with fail
  have hp := hpa _ hrf.out.below
  refine hp.out.mono ?_
  rintro e w3 ⟨rfl, hb3⟩
  have hrf3 := hiD (hrf.out.next hb3)
  clear hb3
  go_wp2_with fail
  refine (hkn _).out.mono ?_
  rintro e w4 ⟨y, rfl, hy, hb4⟩
  obtain ⟨b1, q, n1, k1, q2, m1, k2, rfl⟩ := hy.agg
  have HR := hiD (hy.more (M := 40) (by omega))
  have Hrf := hiD (hrf3.out.next hb4)
  obtain ⟨z0, z1, z2, z3, z4, z5, z6, z7, z8, z9, z10, ⟨l0, l1, l2, l3, l4, l5, l6, l7, l8, l9, l10⟩, ⟨f0, f1, f2, f3, f4, f5, f6, f7, f8, f9, f10⟩⟩ := Hrf.out.slots
  have hfin : Hid (∀ W, W = ((((((((((((w4).setCell ⟨w.heap.size, 0, none⟩ (.bool b1)).setCell ⟨w.heap.size, 1, none⟩ (.slice q n1 k1)).setCell ⟨w.heap.size, 2, none⟩ (.slice q2 m1 k2)).setCell ⟨w.heap.size, 3, none⟩ (.int .i64 0)).setCell ⟨w.heap.size, 4, none⟩ (.int .i64 0)).setCell ⟨w.heap.size, 5, none⟩ (.int .i64 0)).setCell ⟨w.heap.size, 6, none⟩ (.int .i64 0)).setCell ⟨w.heap.size, 7, none⟩ (.int .i64 0)).setCell ⟨w.heap.size, 8, none⟩ (.int .i64 0)).setCell ⟨w.heap.size, 9, none⟩ (.int .i64 0)).setCell ⟨w.heap.size, 10, none⟩ (.int .i64 1)) → ScanPost (some (⟨r, noPs, 1⟩, n)) w (.returned (.tuple #[.agg #[.bool b1, .slice q n1 k1, .slice q2 m1 k2, .int .i64 0, .int .i64 0, .int .i64 0, .int .i64 0, .int .i64 0, .int .i64 0, .int .i64 0, .int .i64 1], .int .i64 n])) W) := hiD (by
    rintro W rfl
    refine ⟨(Hrf.out.put hle (.bool b1) (.slice q n1 k1) (.slice q2 m1 k2) (.int .i64 0) (.int .i64 0) (.int .i64 0) (.int .i64 0) (.int .i64 0) (.int .i64 0) (.int .i64 0) (.int .i64 1) ⟨nub _, nus _ _ _, nus _ _ _, nui _, nui _, nui _, nui _, nui _, nui _, nui _, nui _⟩).1.below, _, _, _, _, _, _, _, _, _, _, _, _, _, _, _, rfl, ?_⟩
    rintro _ _ h
    cases h
    exact ⟨Hrf.out.rat HR.out (.bool b1) (.slice q n1 k1) (.slice q2 m1 k2) (.int .i64 0) (.int .i64 0) (.int .i64 0) (.int .i64 0) (.int .i64 0) (.int .i64 0) (.int .i64 0) (.int .i64 1) ⟨nub _, nus _ _ _, nus _ _ _, nui _, nui _, nui _, nui _, nui _, nui _, nui _, nui _⟩, rfl, rfl⟩)
  clear hb4 hy
  go_wp2_with fail
  have hcells := (Hrf.out.put hle (.bool b1) (.slice q n1 k1) (.slice q2 m1 k2) (.int .i64 0) (.int .i64 0) (.int .i64 0) (.int .i64 0) (.int .i64 0) (.int .i64 0) (.int .i64 0) (.int .i64 1) ⟨nub _, nus _ _ _, nus _ _ _, nui _, nui _, nui _, nui _, nui _, nui _, nui _, nui _⟩).2
  generalize (((((((((((w4).setCell ⟨w.heap.size, 0, none⟩ (.bool b1)).setCell ⟨w.heap.size, 1, none⟩ (.slice q n1 k1)).setCell ⟨w.heap.size, 2, none⟩ (.slice q2 m1 k2)).setCell ⟨w.heap.size, 3, none⟩ (.int .i64 0)).setCell ⟨w.heap.size, 4, none⟩ (.int .i64 0)).setCell ⟨w.heap.size, 5, none⟩ (.int .i64 0)).setCell ⟨w.heap.size, 6, none⟩ (.int .i64 0)).setCell ⟨w.heap.size, 7, none⟩ (.int .i64 0)).setCell ⟨w.heap.size, 8, none⟩ (.int .i64 0)).setCell ⟨w.heap.size, 9, none⟩ (.int .i64 0)).setCell ⟨w.heap.size, 10, none⟩ (.int .i64 1) = WW at hcells hfin ⊢
  have c0 := ceh hcells 0
  have c1 := ceh hcells 1
  have c2 := ceh hcells 2
  have c3 := ceh hcells 3
  have c4 := ceh hcells 4
  have c5 := ceh hcells 5
  have c6 := ceh hcells 6
  have c7 := ceh hcells 7
  have c8 := ceh hcells 8
  have c9 := ceh hcells 9
  have c10 := ceh hcells 10
  refine bodyPost_ret (v := .tuple #[.agg #[.bool b1, .slice q n1 k1, .slice q2 m1 k2, .int .i64 0, .int .i64 0, .int .i64 0, .int .i64 0, .int .i64 0, .int .i64 0, .int .i64 0, .int .i64 1], .int .i64 n]) (by simp [results, Tryz.results194, go_sem, c0, c1, c2, c3, c4, c5, c6, c7, c8, c9, c10]) rfl ?_
  exact hfin.out _ rfl
theorem num_err_oth (s : ByteArray) (n : Nat) (x : List UInt8) (er : Int) (her : (er != 0) = true) (w : World) (hn : n ≤ s.size) (_hmax : (s.size : Int) ≤ 100000) (hlt : n < s.size) (hc1 : (((s[n]'hlt).toNat : Int) == 46) = false) (hc2 : (((s[n]'hlt).toNat : Int) == 47) = false) (hcd : ∀ W, Hid (Calls Tryz.prog 193 #[.string s] W fun e w' => e = .returned (.int .i64 n) ∧ W = w')) (hpa : ∀ W, Below w.heap.size w W → Hid (Calls Tryz.prog 15 #[.string (s.extract 0 n)] W (PairPost (x, er) W))) : Calls Tryz.prog 194 #[.string s] w (ScanPost none w) := by
  have hrf := hiD (ResF.start w)
  have hle : w.heap.size ≤ w.heap.size := Nat.le_refl _
  go_enter Tryz.func194, Tryz.ntmps194
  go_wp2_with fail
  refine (hcd _).out.mono ?_
  rintro e w1 ⟨rfl, rfl⟩
  go_wp2_with fail
  have hp := hpa _ hrf.out.below
  refine hp.out.mono ?_
  rintro e w3 ⟨rfl, hb3⟩
  have Hrf := hiD (hrf.out.next hb3)
  obtain ⟨z0, z1, z2, z3, z4, z5, z6, z7, z8, z9, z10, ⟨l0, l1, l2, l3, l4, l5, l6, l7, l8, l9, l10⟩, ⟨f0, f1, f2, f3, f4, f5, f6, f7, f8, f9, f10⟩⟩ := Hrf.out.slots
  have hfin : Hid (∀ W, W = ((((((((((((w3).setCell ⟨w.heap.size, 0, none⟩ (.bool false)).setCell ⟨w.heap.size, 1, none⟩ (.slice none 0 0)).setCell ⟨w.heap.size, 2, none⟩ (.slice none 0 0)).setCell ⟨w.heap.size, 3, none⟩ (.int .i64 0)).setCell ⟨w.heap.size, 4, none⟩ (.int .i64 0)).setCell ⟨w.heap.size, 5, none⟩ (.int .i64 0)).setCell ⟨w.heap.size, 6, none⟩ (.int .i64 0)).setCell ⟨w.heap.size, 7, none⟩ (.int .i64 0)).setCell ⟨w.heap.size, 8, none⟩ (.int .i64 0)).setCell ⟨w.heap.size, 9, none⟩ (.int .i64 0)).setCell ⟨w.heap.size, 10, none⟩ (.int .i64 0)) → ScanPost none w (.returned (.tuple #[.agg #[.bool false, .slice none 0 0, .slice none 0 0, .int .i64 0, .int .i64 0, .int .i64 0, .int .i64 0, .int .i64 0, .int .i64 0, .int .i64 0, .int .i64 0], .int .i64 0])) W) := hiD (by
    rintro W rfl
    exact ⟨(Hrf.out.put hle (.bool false) (.slice none 0 0) (.slice none 0 0) (.int .i64 0) (.int .i64 0) (.int .i64 0) (.int .i64 0) (.int .i64 0) (.int .i64 0) (.int .i64 0) (.int .i64 0) ⟨nub _, nus _ _ _, nus _ _ _, nui _, nui _, nui _, nui _, nui _, nui _, nui _, nui _⟩).1.below, _, _, _, _, _, _, _, _, _, _, _, _, _, _, _, rfl, by rintro _ _ h; cases h⟩)
  clear hb3
  go_wp2_with fail
  have hcells := (Hrf.out.put hle (.bool false) (.slice none 0 0) (.slice none 0 0) (.int .i64 0) (.int .i64 0) (.int .i64 0) (.int .i64 0) (.int .i64 0) (.int .i64 0) (.int .i64 0) (.int .i64 0) ⟨nub _, nus _ _ _, nus _ _ _, nui _, nui _, nui _, nui _, nui _, nui _, nui _, nui _⟩).2
  generalize (((((((((((w3).setCell ⟨w.heap.size, 0, none⟩ (.bool false)).setCell ⟨w.heap.size, 1, none⟩ (.slice none 0 0)).setCell ⟨w.heap.size, 2, none⟩ (.slice none 0 0)).setCell ⟨w.heap.size, 3, none⟩ (.int .i64 0)).setCell ⟨w.heap.size, 4, none⟩ (.int .i64 0)).setCell ⟨w.heap.size, 5, none⟩ (.int .i64 0)).setCell ⟨w.heap.size, 6, none⟩ (.int .i64 0)).setCell ⟨w.heap.size, 7, none⟩ (.int .i64 0)).setCell ⟨w.heap.size, 8, none⟩ (.int .i64 0)).setCell ⟨w.heap.size, 9, none⟩ (.int .i64 0)).setCell ⟨w.heap.size, 10, none⟩ (.int .i64 0) = WW at hcells hfin ⊢
  have c0 := ceh hcells 0
  have c1 := ceh hcells 1
  have c2 := ceh hcells 2
  have c3 := ceh hcells 3
  have c4 := ceh hcells 4
  have c5 := ceh hcells 5
  have c6 := ceh hcells 6
  have c7 := ceh hcells 7
  have c8 := ceh hcells 8
  have c9 := ceh hcells 9
  have c10 := ceh hcells 10
  refine bodyPost_ret (v := .tuple #[.agg #[.bool false, .slice none 0 0, .slice none 0 0, .int .i64 0, .int .i64 0, .int .i64 0, .int .i64 0, .int .i64 0, .int .i64 0, .int .i64 0, .int .i64 0], .int .i64 0]) (by simp [results, Tryz.results194, go_sem, c0, c1, c2, c3, c4, c5, c6, c7, c8, c9, c10]) rfl ?_
  exact hfin.out _ rfl
theorem num_zero_oth (s : ByteArray) (n : Nat) (w : World) (hn : n ≤ s.size) (_hmax : (s.size : Int) ≤ 100000) (hlt : n < s.size) (hc1 : (((s[n]'hlt).toNat : Int) == 46) = false) (hc2 : (((s[n]'hlt).toNat : Int) == 47) = false) (hcd : ∀ W, Hid (Calls Tryz.prog 193 #[.string s] W fun e w' => e = .returned (.int .i64 n) ∧ W = w')) (hpa : ∀ W, Below w.heap.size w W → Hid (Calls Tryz.prog 15 #[.string (s.extract 0 n)] W (PairPost ([48], 0) W))) : Calls Tryz.prog 194 #[.string s] w (ScanPost none w) := by
  have hrf := hiD (ResF.start w)
  have hle : w.heap.size ≤ w.heap.size := Nat.le_refl _
  go_enter Tryz.func194, Tryz.ntmps194
  go_wp2_with fail
  refine (hcd _).out.mono ?_
  rintro e w1 ⟨rfl, rfl⟩
  go_wp2_with fail
  have hp := hpa _ hrf.out.below
  refine hp.out.mono ?_
  rintro e w3 ⟨rfl, hb3⟩
  have Hrf := hiD (hrf.out.next hb3)
  obtain ⟨z0, z1, z2, z3, z4, z5, z6, z7, z8, z9, z10, ⟨l0, l1, l2, l3, l4, l5, l6, l7, l8, l9, l10⟩, ⟨f0, f1, f2, f3, f4, f5, f6, f7, f8, f9, f10⟩⟩ := Hrf.out.slots
  have hfin : Hid (∀ W, W = ((((((((((((w3).setCell ⟨w.heap.size, 0, none⟩ (.bool false)).setCell ⟨w.heap.size, 1, none⟩ (.slice none 0 0)).setCell ⟨w.heap.size, 2, none⟩ (.slice none 0 0)).setCell ⟨w.heap.size, 3, none⟩ (.int .i64 0)).setCell ⟨w.heap.size, 4, none⟩ (.int .i64 0)).setCell ⟨w.heap.size, 5, none⟩ (.int .i64 0)).setCell ⟨w.heap.size, 6, none⟩ (.int .i64 0)).setCell ⟨w.heap.size, 7, none⟩ (.int .i64 0)).setCell ⟨w.heap.size, 8, none⟩ (.int .i64 0)).setCell ⟨w.heap.size, 9, none⟩ (.int .i64 0)).setCell ⟨w.heap.size, 10, none⟩ (.int .i64 0)) → ScanPost none w (.returned (.tuple #[.agg #[.bool false, .slice none 0 0, .slice none 0 0, .int .i64 0, .int .i64 0, .int .i64 0, .int .i64 0, .int .i64 0, .int .i64 0, .int .i64 0, .int .i64 0], .int .i64 0])) W) := hiD (by
    rintro W rfl
    exact ⟨(Hrf.out.put hle (.bool false) (.slice none 0 0) (.slice none 0 0) (.int .i64 0) (.int .i64 0) (.int .i64 0) (.int .i64 0) (.int .i64 0) (.int .i64 0) (.int .i64 0) (.int .i64 0) ⟨nub _, nus _ _ _, nus _ _ _, nui _, nui _, nui _, nui _, nui _, nui _, nui _, nui _⟩).1.below, _, _, _, _, _, _, _, _, _, _, _, _, _, _, _, rfl, by rintro _ _ h; cases h⟩)
  clear hb3
  go_wp2_with fail
  have hcells := (Hrf.out.put hle (.bool false) (.slice none 0 0) (.slice none 0 0) (.int .i64 0) (.int .i64 0) (.int .i64 0) (.int .i64 0) (.int .i64 0) (.int .i64 0) (.int .i64 0) (.int .i64 0) ⟨nub _, nus _ _ _, nus _ _ _, nui _, nui _, nui _, nui _, nui _, nui _, nui _, nui _⟩).2
  generalize (((((((((((w3).setCell ⟨w.heap.size, 0, none⟩ (.bool false)).setCell ⟨w.heap.size, 1, none⟩ (.slice none 0 0)).setCell ⟨w.heap.size, 2, none⟩ (.slice none 0 0)).setCell ⟨w.heap.size, 3, none⟩ (.int .i64 0)).setCell ⟨w.heap.size, 4, none⟩ (.int .i64 0)).setCell ⟨w.heap.size, 5, none⟩ (.int .i64 0)).setCell ⟨w.heap.size, 6, none⟩ (.int .i64 0)).setCell ⟨w.heap.size, 7, none⟩ (.int .i64 0)).setCell ⟨w.heap.size, 8, none⟩ (.int .i64 0)).setCell ⟨w.heap.size, 9, none⟩ (.int .i64 0)).setCell ⟨w.heap.size, 10, none⟩ (.int .i64 0) = WW at hcells hfin ⊢
  have c0 := ceh hcells 0
  have c1 := ceh hcells 1
  have c2 := ceh hcells 2
  have c3 := ceh hcells 3
  have c4 := ceh hcells 4
  have c5 := ceh hcells 5
  have c6 := ceh hcells 6
  have c7 := ceh hcells 7
  have c8 := ceh hcells 8
  have c9 := ceh hcells 9
  have c10 := ceh hcells 10
  refine bodyPost_ret (v := .tuple #[.agg #[.bool false, .slice none 0 0, .slice none 0 0, .int .i64 0, .int .i64 0, .int .i64 0, .int .i64 0, .int .i64 0, .int .i64 0, .int .i64 0, .int .i64 0], .int .i64 0]) (by simp [results, Tryz.results194, go_sem, c0, c1, c2, c3, c4, c5, c6, c7, c8, c9, c10]) rfl ?_
  exact hfin.out _ rfl
theorem num_ok_oth (s : ByteArray) (n : Nat) (x : List UInt8) (r : Rat) (hx1 : (x == [48]) = false) (_hx2 : ¬ x = [48]) (hkn : ∀ W, Hid (Calls Tryz.prog 227 #[.string ⟨x.toArray⟩] W (IsPost r 20 W))) (w : World) (hn : n ≤ s.size) (_hmax : (s.size : Int) ≤ 100000) (hlt : n < s.size) (hc1 : (((s[n]'hlt).toNat : Int) == 46) = false) (hc2 : (((s[n]'hlt).toNat : Int) == 47) = false) (hcd : ∀ W, Hid (Calls Tryz.prog 193 #[.string s] W fun e w' => e = .returned (.int .i64 n) ∧ W = w')) (hpa : ∀ W, Below w.heap.size w W → Hid (Calls Tryz.prog 15 #[.string (s.extract 0 n)] W (PairPost (x, 0) W))) : Calls Tryz.prog 194 #[.string s] w (ScanPost (some (⟨r, noPs, 1⟩, n)) w) := by
  have hrf := hiD (ResF.start w)
  have hle : w.heap.size ≤ w.heap.size := Nat.le_refl _
  go_enter Tryz.func194, Tryz.ntmps194
  go_wp2_with fail
  refine (hcd _).out.mono ?_
  rintro e w1 ⟨rfl, rfl⟩
  go_wp2_with fail
  have hp := hpa _ hrf.out.below
  refine hp.out.mono ?_
  rintro e w3 ⟨rfl, hb3⟩
  have hrf3 := hiD (hrf.out.next hb3)
  clear hb3
  go_wp2_with fail
  refine (hkn _).out.mono ?_
  rintro e w4 ⟨y, rfl, hy, hb4⟩
  obtain ⟨b1, q, n1, k1, q2, m1, k2, rfl⟩ := hy.agg
  have HR := hiD (hy.more (M := 40) (by omega))
  have Hrf := hiD (hrf3.out.next hb4)
  obtain ⟨z0, z1, z2, z3, z4, z5, z6, z7, z8, z9, z10, ⟨l0, l1, l2, l3, l4, l5, l6, l7, l8, l9, l10⟩, ⟨f0, f1, f2, f3, f4, f5, f6, f7, f8, f9, f10⟩⟩ := Hrf.out.slots
  have hfin : Hid (∀ W, W = ((((((((((((w4).setCell ⟨w.heap.size, 0, none⟩ (.bool b1)).setCell ⟨w.heap.size, 1, none⟩ (.slice q n1 k1)).setCell ⟨w.heap.size, 2, none⟩ (.slice q2 m1 k2)).setCell ⟨w.heap.size, 3, none⟩ (.int .i64 0)).setCell ⟨w.heap.size, 4, none⟩ (.int .i64 0)).setCell ⟨w.heap.size, 5, none⟩ (.int .i64 0)).setCell ⟨w.heap.size, 6, none⟩ (.int .i64 0)).setCell ⟨w.heap.size, 7, none⟩ (.int .i64 0)).setCell ⟨w.heap.size, 8, none⟩ (.int .i64 0)).setCell ⟨w.heap.size, 9, none⟩ (.int .i64 0)).setCell ⟨w.heap.size, 10, none⟩ (.int .i64 1)) → ScanPost (some (⟨r, noPs, 1⟩, n)) w (.returned (.tuple #[.agg #[.bool b1, .slice q n1 k1, .slice q2 m1 k2, .int .i64 0, .int .i64 0, .int .i64 0, .int .i64 0, .int .i64 0, .int .i64 0, .int .i64 0, .int .i64 1], .int .i64 n])) W) := hiD (by
    rintro W rfl
    refine ⟨(Hrf.out.put hle (.bool b1) (.slice q n1 k1) (.slice q2 m1 k2) (.int .i64 0) (.int .i64 0) (.int .i64 0) (.int .i64 0) (.int .i64 0) (.int .i64 0) (.int .i64 0) (.int .i64 1) ⟨nub _, nus _ _ _, nus _ _ _, nui _, nui _, nui _, nui _, nui _, nui _, nui _, nui _⟩).1.below, _, _, _, _, _, _, _, _, _, _, _, _, _, _, _, rfl, ?_⟩
    rintro _ _ h
    cases h
    exact ⟨Hrf.out.rat HR.out (.bool b1) (.slice q n1 k1) (.slice q2 m1 k2) (.int .i64 0) (.int .i64 0) (.int .i64 0) (.int .i64 0) (.int .i64 0) (.int .i64 0) (.int .i64 0) (.int .i64 1) ⟨nub _, nus _ _ _, nus _ _ _, nui _, nui _, nui _, nui _, nui _, nui _, nui _, nui _⟩, rfl, rfl⟩)
  clear hb4 hy
  go_wp2_with fail
  have hcells := (Hrf.out.put hle (.bool b1) (.slice q n1 k1) (.slice q2 m1 k2) (.int .i64 0) (.int .i64 0) (.int .i64 0) (.int .i64 0) (.int .i64 0) (.int .i64 0) (.int .i64 0) (.int .i64 1) ⟨nub _, nus _ _ _, nus _ _ _, nui _, nui _, nui _, nui _, nui _, nui _, nui _, nui _⟩).2
  generalize (((((((((((w4).setCell ⟨w.heap.size, 0, none⟩ (.bool b1)).setCell ⟨w.heap.size, 1, none⟩ (.slice q n1 k1)).setCell ⟨w.heap.size, 2, none⟩ (.slice q2 m1 k2)).setCell ⟨w.heap.size, 3, none⟩ (.int .i64 0)).setCell ⟨w.heap.size, 4, none⟩ (.int .i64 0)).setCell ⟨w.heap.size, 5, none⟩ (.int .i64 0)).setCell ⟨w.heap.size, 6, none⟩ (.int .i64 0)).setCell ⟨w.heap.size, 7, none⟩ (.int .i64 0)).setCell ⟨w.heap.size, 8, none⟩ (.int .i64 0)).setCell ⟨w.heap.size, 9, none⟩ (.int .i64 0)).setCell ⟨w.heap.size, 10, none⟩ (.int .i64 1) = WW at hcells hfin ⊢
  have c0 := ceh hcells 0
  have c1 := ceh hcells 1
  have c2 := ceh hcells 2
  have c3 := ceh hcells 3
  have c4 := ceh hcells 4
  have c5 := ceh hcells 5
  have c6 := ceh hcells 6
  have c7 := ceh hcells 7
  have c8 := ceh hcells 8
  have c9 := ceh hcells 9
  have c10 := ceh hcells 10
  refine bodyPost_ret (v := .tuple #[.agg #[.bool b1, .slice q n1 k1, .slice q2 m1 k2, .int .i64 0, .int .i64 0, .int .i64 0, .int .i64 0, .int .i64 0, .int .i64 0, .int .i64 0, .int .i64 1], .int .i64 n]) (by simp [results, Tryz.results194, go_sem, c0, c1, c2, c3, c4, c5, c6, c7, c8, c9, c10]) rfl ?_
  exact hfin.out _ rfl
theorem num_err_dot0 (s : ByteArray) (n : Nat) (x : List UInt8) (er : Int) (her : (er != 0) = true) (w : World) (hn : n ≤ s.size) (hmax : (s.size : Int) ≤ 100000) (hlt : n < s.size) (hc1 : (((s[n]'hlt).toNat : Int) == 46) = true) (hmo : ∀ W, Hid (Calls Tryz.prog 193 #[.string (s.extract (n + 1) s.size)] W fun e w' => e = .returned (.int .i64 0) ∧ W = w')) (hcd : ∀ W, Hid (Calls Tryz.prog 193 #[.string s] W fun e w' => e = .returned (.int .i64 n) ∧ W = w')) (hpa : ∀ W, Below w.heap.size w W → Hid (Calls Tryz.prog 15 #[.string (s.extract 0 n)] W (PairPost (x, er) W))) : Calls Tryz.prog 194 #[.string s] w (ScanPost none w) := by
  have hrf := hiD (ResF.start w)
  have hle : w.heap.size ≤ w.heap.size := Nat.le_refl _
  go_enter Tryz.func194, Tryz.ntmps194
  go_wp2_with fail
  refine (hcd _).out.mono ?_
  rintro e w1 ⟨rfl, rfl⟩
  go_wp2_with fail
  refine (hmo _).out.mono ?_
  rintro e w1 ⟨rfl, rfl⟩
  go_wp2_with fail
  have hp := hpa _ hrf.out.below
  refine hp.out.mono ?_
  rintro e w3 ⟨rfl, hb3⟩
  have Hrf := hiD (hrf.out.next hb3)
  obtain ⟨z0, z1, z2, z3, z4, z5, z6, z7, z8, z9, z10, ⟨l0, l1, l2, l3, l4, l5, l6, l7, l8, l9, l10⟩, ⟨f0, f1, f2, f3, f4, f5, f6, f7, f8, f9, f10⟩⟩ := Hrf.out.slots
  have hfin : Hid (∀ W, W = ((((((((((((w3).setCell ⟨w.heap.size, 0, none⟩ (.bool false)).setCell ⟨w.heap.size, 1, none⟩ (.slice none 0 0)).setCell ⟨w.heap.size, 2, none⟩ (.slice none 0 0)).setCell ⟨w.heap.size, 3, none⟩ (.int .i64 0)).setCell ⟨w.heap.size, 4, none⟩ (.int .i64 0)).setCell ⟨w.heap.size, 5, none⟩ (.int .i64 0)).setCell ⟨w.heap.size, 6, none⟩ (.int .i64 0)).setCell ⟨w.heap.size, 7, none⟩ (.int .i64 0)).setCell ⟨w.heap.size, 8, none⟩ (.int .i64 0)).setCell ⟨w.heap.size, 9, none⟩ (.int .i64 0)).setCell ⟨w.heap.size, 10, none⟩ (.int .i64 0)) → ScanPost none w (.returned (.tuple #[.agg #[.bool false, .slice none 0 0, .slice none 0 0, .int .i64 0, .int .i64 0, .int .i64 0, .int .i64 0, .int .i64 0, .int .i64 0, .int .i64 0, .int .i64 0], .int .i64 0])) W) := hiD (by
    rintro W rfl
    exact ⟨(Hrf.out.put hle (.bool false) (.slice none 0 0) (.slice none 0 0) (.int .i64 0) (.int .i64 0) (.int .i64 0) (.int .i64 0) (.int .i64 0) (.int .i64 0) (.int .i64 0) (.int .i64 0) ⟨nub _, nus _ _ _, nus _ _ _, nui _, nui _, nui _, nui _, nui _, nui _, nui _, nui _⟩).1.below, _, _, _, _, _, _, _, _, _, _, _, _, _, _, _, rfl, by rintro _ _ h; cases h⟩)
  clear hb3
  go_wp2_with fail
  have hcells := (Hrf.out.put hle (.bool false) (.slice none 0 0) (.slice none 0 0) (.int .i64 0) (.int .i64 0) (.int .i64 0) (.int .i64 0) (.int .i64 0) (.int .i64 0) (.int .i64 0) (.int .i64 0) ⟨nub _, nus _ _ _, nus _ _ _, nui _, nui _, nui _, nui _, nui _, nui _, nui _, nui _⟩).2
  generalize (((((((((((w3).setCell ⟨w.heap.size, 0, none⟩ (.bool false)).setCell ⟨w.heap.size, 1, none⟩ (.slice none 0 0)).setCell ⟨w.heap.size, 2, none⟩ (.slice none 0 0)).setCell ⟨w.heap.size, 3, none⟩ (.int .i64 0)).setCell ⟨w.heap.size, 4, none⟩ (.int .i64 0)).setCell ⟨w.heap.size, 5, none⟩ (.int .i64 0)).setCell ⟨w.heap.size, 6, none⟩ (.int .i64 0)).setCell ⟨w.heap.size, 7, none⟩ (.int .i64 0)).setCell ⟨w.heap.size, 8, none⟩ (.int .i64 0)).setCell ⟨w.heap.size, 9, none⟩ (.int .i64 0)).setCell ⟨w.heap.size, 10, none⟩ (.int .i64 0) = WW at hcells hfin ⊢
  have c0 := ceh hcells 0
  have c1 := ceh hcells 1
  have c2 := ceh hcells 2
  have c3 := ceh hcells 3
  have c4 := ceh hcells 4
  have c5 := ceh hcells 5
  have c6 := ceh hcells 6
  have c7 := ceh hcells 7
  have c8 := ceh hcells 8
  have c9 := ceh hcells 9
  have c10 := ceh hcells 10
  refine bodyPost_ret (v := .tuple #[.agg #[.bool false, .slice none 0 0, .slice none 0 0, .int .i64 0, .int .i64 0, .int .i64 0, .int .i64 0, .int .i64 0, .int .i64 0, .int .i64 0, .int .i64 0], .int .i64 0]) (by simp [results, Tryz.results194, go_sem, c0, c1, c2, c3, c4, c5, c6, c7, c8, c9, c10]) rfl ?_
  exact hfin.out _ rfl
theorem num_zero_dot0 (s : ByteArray) (n : Nat) (w : World) (hn : n ≤ s.size) (hmax : (s.size : Int) ≤ 100000) (hlt : n < s.size) (hc1 : (((s[n]'hlt).toNat : Int) == 46) = true) (hmo : ∀ W, Hid (Calls Tryz.prog 193 #[.string (s.extract (n + 1) s.size)] W fun e w' => e = .returned (.int .i64 0) ∧ W = w')) (hcd : ∀ W, Hid (Calls Tryz.prog 193 #[.string s] W fun e w' => e = .returned (.int .i64 n) ∧ W = w')) (hpa : ∀ W, Below w.heap.size w W → Hid (Calls Tryz.prog 15 #[.string (s.extract 0 n)] W (PairPost ([48], 0) W))) : Calls Tryz.prog 194 #[.string s] w (ScanPost none w) := by
  have hrf := hiD (ResF.start w)
  have hle : w.heap.size ≤ w.heap.size := Nat.le_refl _
  go_enter Tryz.func194, Tryz.ntmps194
  go_wp2_with fail
  refine (hcd _).out.mono ?_
  rintro e w1 ⟨rfl, rfl⟩
  go_wp2_with fail
  refine (hmo _).out.mono ?_
  rintro e w1 ⟨rfl, rfl⟩
  go_wp2_with fail
  have hp := hpa _ hrf.out.below
  refine hp.out.mono ?_
  rintro e w3 ⟨rfl, hb3⟩
  have Hrf := hiD (hrf.out.next hb3)
  obtain ⟨z0, z1, z2, z3, z4, z5, z6, z7, z8, z9, z10, ⟨l0, l1, l2, l3, l4, l5, l6, l7, l8, l9, l10⟩, ⟨f0, f1, f2, f3, f4, f5, f6, f7, f8, f9, f10⟩⟩ := Hrf.out.slots
  have hfin : Hid (∀ W, W = ((((((((((((w3).setCell ⟨w.heap.size, 0, none⟩ (.bool false)).setCell ⟨w.heap.size, 1, none⟩ (.slice none 0 0)).setCell ⟨w.heap.size, 2, none⟩ (.slice none 0 0)).setCell ⟨w.heap.size, 3, none⟩ (.int .i64 0)).setCell ⟨w.heap.size, 4, none⟩ (.int .i64 0)).setCell ⟨w.heap.size, 5, none⟩ (.int .i64 0)).setCell ⟨w.heap.size, 6, none⟩ (.int .i64 0)).setCell ⟨w.heap.size, 7, none⟩ (.int .i64 0)).setCell ⟨w.heap.size, 8, none⟩ (.int .i64 0)).setCell ⟨w.heap.size, 9, none⟩ (.int .i64 0)).setCell ⟨w.heap.size, 10, none⟩ (.int .i64 0)) → ScanPost none w (.returned (.tuple #[.agg #[.bool false, .slice none 0 0, .slice none 0 0, .int .i64 0, .int .i64 0, .int .i64 0, .int .i64 0, .int .i64 0, .int .i64 0, .int .i64 0, .int .i64 0], .int .i64 0])) W) := hiD (by
    rintro W rfl
    exact ⟨(Hrf.out.put hle (.bool false) (.slice none 0 0) (.slice none 0 0) (.int .i64 0) (.int .i64 0) (.int .i64 0) (.int .i64 0) (.int .i64 0) (.int .i64 0) (.int .i64 0) (.int .i64 0) ⟨nub _, nus _ _ _, nus _ _ _, nui _, nui _, nui _, nui _, nui _, nui _, nui _, nui _⟩).1.below, _, _, _, _, _, _, _, _, _, _, _, _, _, _, _, rfl, by rintro _ _ h; cases h⟩)
  clear hb3
  go_wp2_with fail
  have hcells := (Hrf.out.put hle (.bool false) (.slice none 0 0) (.slice none 0 0) (.int .i64 0) (.int .i64 0) (.int .i64 0) (.int .i64 0) (.int .i64 0) (.int .i64 0) (.int .i64 0) (.int .i64 0) ⟨nub _, nus _ _ _, nus _ _ _, nui _, nui _, nui _, nui _, nui _, nui _, nui _, nui _⟩).2
  generalize (((((((((((w3).setCell ⟨w.heap.size, 0, none⟩ (.bool false)).setCell ⟨w.heap.size, 1, none⟩ (.slice none 0 0)).setCell ⟨w.heap.size, 2, none⟩ (.slice none 0 0)).setCell ⟨w.heap.size, 3, none⟩ (.int .i64 0)).setCell ⟨w.heap.size, 4, none⟩ (.int .i64 0)).setCell ⟨w.heap.size, 5, none⟩ (.int .i64 0)).setCell ⟨w.heap.size, 6, none⟩ (.int .i64 0)).setCell ⟨w.heap.size, 7, none⟩ (.int .i64 0)).setCell ⟨w.heap.size, 8, none⟩ (.int .i64 0)).setCell ⟨w.heap.size, 9, none⟩ (.int .i64 0)).setCell ⟨w.heap.size, 10, none⟩ (.int .i64 0) = WW at hcells hfin ⊢
  have c0 := ceh hcells 0
  have c1 := ceh hcells 1
  have c2 := ceh hcells 2
  have c3 := ceh hcells 3
  have c4 := ceh hcells 4
  have c5 := ceh hcells 5
  have c6 := ceh hcells 6
  have c7 := ceh hcells 7
  have c8 := ceh hcells 8
  have c9 := ceh hcells 9
  have c10 := ceh hcells 10
  refine bodyPost_ret (v := .tuple #[.agg #[.bool false, .slice none 0 0, .slice none 0 0, .int .i64 0, .int .i64 0, .int .i64 0, .int .i64 0, .int .i64 0, .int .i64 0, .int .i64 0, .int .i64 0], .int .i64 0]) (by simp [results, Tryz.results194, go_sem, c0, c1, c2, c3, c4, c5, c6, c7, c8, c9, c10]) rfl ?_
  exact hfin.out _ rfl
theorem num_ok_dot0 (s : ByteArray) (n : Nat) (x : List UInt8) (r : Rat) (hx1 : (x == [48]) = false) (_hx2 : ¬ x = [48]) (hkn : ∀ W, Hid (Calls Tryz.prog 227 #[.string ⟨x.toArray⟩] W (IsPost r 20 W))) (w : World) (hn : n ≤ s.size) (hmax : (s.size : Int) ≤ 100000) (hlt : n < s.size) (hc1 : (((s[n]'hlt).toNat : Int) == 46) = true) (hmo : ∀ W, Hid (Calls Tryz.prog 193 #[.string (s.extract (n + 1) s.size)] W fun e w' => e = .returned (.int .i64 0) ∧ W = w')) (hcd : ∀ W, Hid (Calls Tryz.prog 193 #[.string s] W fun e w' => e = .returned (.int .i64 n) ∧ W = w')) (hpa : ∀ W, Below w.heap.size w W → Hid (Calls Tryz.prog 15 #[.string (s.extract 0 n)] W (PairPost (x, 0) W))) : Calls Tryz.prog 194 #[.string s] w (ScanPost (some (⟨r, noPs, 1⟩, n)) w) := by
  have hrf := hiD (ResF.start w)
  have hle : w.heap.size ≤ w.heap.size := Nat.le_refl _
  go_enter Tryz.func194, Tryz.ntmps194
  go_wp2_with fail
  refine (hcd _).out.mono ?_
  rintro e w1 ⟨rfl, rfl⟩
  go_wp2_with fail
  refine (hmo _).out.mono ?_
  rintro e w1 ⟨rfl, rfl⟩
  go_wp2_with fail
  have hp := hpa _ hrf.out.below
  refine hp.out.mono ?_
  rintro e w3 ⟨rfl, hb3⟩
  have hrf3 := hiD (hrf.out.next hb3)
  clear hb3
  go_wp2_with fail
  refine (hkn _).out.mono ?_
  rintro e w4 ⟨y, rfl, hy, hb4⟩
  obtain ⟨b1, q, n1, k1, q2, m1, k2, rfl⟩ := hy.agg
  have HR := hiD (hy.more (M := 40) (by omega))
  have Hrf := hiD (hrf3.out.next hb4)
  obtain ⟨z0, z1, z2, z3, z4, z5, z6, z7, z8, z9, z10, ⟨l0, l1, l2, l3, l4, l5, l6, l7, l8, l9, l10⟩, ⟨f0, f1, f2, f3, f4, f5, f6, f7, f8, f9, f10⟩⟩ := Hrf.out.slots
  have hfin : Hid (∀ W, W = ((((((((((((w4).setCell ⟨w.heap.size, 0, none⟩ (.bool b1)).setCell ⟨w.heap.size, 1, none⟩ (.slice q n1 k1)).setCell ⟨w.heap.size, 2, none⟩ (.slice q2 m1 k2)).setCell ⟨w.heap.size, 3, none⟩ (.int .i64 0)).setCell ⟨w.heap.size, 4, none⟩ (.int .i64 0)).setCell ⟨w.heap.size, 5, none⟩ (.int .i64 0)).setCell ⟨w.heap.size, 6, none⟩ (.int .i64 0)).setCell ⟨w.heap.size, 7, none⟩ (.int .i64 0)).setCell ⟨w.heap.size, 8, none⟩ (.int .i64 0)).setCell ⟨w.heap.size, 9, none⟩ (.int .i64 0)).setCell ⟨w.heap.size, 10, none⟩ (.int .i64 1)) → ScanPost (some (⟨r, noPs, 1⟩, n)) w (.returned (.tuple #[.agg #[.bool b1, .slice q n1 k1, .slice q2 m1 k2, .int .i64 0, .int .i64 0, .int .i64 0, .int .i64 0, .int .i64 0, .int .i64 0, .int .i64 0, .int .i64 1], .int .i64 n])) W) := hiD (by
    rintro W rfl
    refine ⟨(Hrf.out.put hle (.bool b1) (.slice q n1 k1) (.slice q2 m1 k2) (.int .i64 0) (.int .i64 0) (.int .i64 0) (.int .i64 0) (.int .i64 0) (.int .i64 0) (.int .i64 0) (.int .i64 1) ⟨nub _, nus _ _ _, nus _ _ _, nui _, nui _, nui _, nui _, nui _, nui _, nui _, nui _⟩).1.below, _, _, _, _, _, _, _, _, _, _, _, _, _, _, _, rfl, ?_⟩
    rintro _ _ h
    cases h
    exact ⟨Hrf.out.rat HR.out (.bool b1) (.slice q n1 k1) (.slice q2 m1 k2) (.int .i64 0) (.int .i64 0) (.int .i64 0) (.int .i64 0) (.int .i64 0) (.int .i64 0) (.int .i64 0) (.int .i64 1) ⟨nub _, nus _ _ _, nus _ _ _, nui _, nui _, nui _, nui _, nui _, nui _, nui _, nui _⟩, rfl, rfl⟩)
  clear hb4 hy
  go_wp2_with fail
  have hcells := (Hrf.out.put hle (.bool b1) (.slice q n1 k1) (.slice q2 m1 k2) (.int .i64 0) (.int .i64 0) (.int .i64 0) (.int .i64 0) (.int .i64 0) (.int .i64 0) (.int .i64 0) (.int .i64 1) ⟨nub _, nus _ _ _, nus _ _ _, nui _, nui _, nui _, nui _, nui _, nui _, nui _, nui _⟩).2
  generalize (((((((((((w4).setCell ⟨w.heap.size, 0, none⟩ (.bool b1)).setCell ⟨w.heap.size, 1, none⟩ (.slice q n1 k1)).setCell ⟨w.heap.size, 2, none⟩ (.slice q2 m1 k2)).setCell ⟨w.heap.size, 3, none⟩ (.int .i64 0)).setCell ⟨w.heap.size, 4, none⟩ (.int .i64 0)).setCell ⟨w.heap.size, 5, none⟩ (.int .i64 0)).setCell ⟨w.heap.size, 6, none⟩ (.int .i64 0)).setCell ⟨w.heap.size, 7, none⟩ (.int .i64 0)).setCell ⟨w.heap.size, 8, none⟩ (.int .i64 0)).setCell ⟨w.heap.size, 9, none⟩ (.int .i64 0)).setCell ⟨w.heap.size, 10, none⟩ (.int .i64 1) = WW at hcells hfin ⊢
  have c0 := ceh hcells 0
  have c1 := ceh hcells 1
  have c2 := ceh hcells 2
  have c3 := ceh hcells 3
  have c4 := ceh hcells 4
  have c5 := ceh hcells 5
  have c6 := ceh hcells 6
  have c7 := ceh hcells 7
  have c8 := ceh hcells 8
  have c9 := ceh hcells 9
  have c10 := ceh hcells 10
  refine bodyPost_ret (v := .tuple #[.agg #[.bool b1, .slice q n1 k1, .slice q2 m1 k2, .int .i64 0, .int .i64 0, .int .i64 0, .int .i64 0, .int .i64 0, .int .i64 0, .int .i64 0, .int .i64 1], .int .i64 n]) (by simp [results, Tryz.results194, go_sem, c0, c1, c2, c3, c4, c5, c6, c7, c8, c9, c10]) rfl ?_
  exact hfin.out _ rfl
theorem num_err_sla0 (s : ByteArray) (n : Nat) (x : List UInt8) (er : Int) (her : (er != 0) = true) (w : World) (hn : n ≤ s.size) (hmax : (s.size : Int) ≤ 100000) (hlt : n < s.size) (hc1 : (((s[n]'hlt).toNat : Int) == 46) = false) (hc2 : (((s[n]'hlt).toNat : Int) == 47) = true) (hmo : ∀ W, Hid (Calls Tryz.prog 193 #[.string (s.extract (n + 1) s.size)] W fun e w' => e = .returned (.int .i64 0) ∧ W = w')) (hcd : ∀ W, Hid (Calls Tryz.prog 193 #[.string s] W fun e w' => e = .returned (.int .i64 n) ∧ W = w')) (hpa : ∀ W, Below w.heap.size w W → Hid (Calls Tryz.prog 15 #[.string (s.extract 0 n)] W (PairPost (x, er) W))) : Calls Tryz.prog 194 #[.string s] w (ScanPost none w) := by
  have hrf := hiD (ResF.start w)
  have hle : w.heap.size ≤ w.heap.size := Nat.le_refl _
  go_enter Tryz.func194, Tryz.ntmps194
  go_wp2_with fail
  refine (hcd _).out.mono ?_
  rintro e w1 ⟨rfl, rfl⟩
  go_wp2_with fail
  refine (hmo _).out.mono ?_
  rintro e w1 ⟨rfl, rfl⟩
  go_wp2_with fail
  have hp := hpa _ hrf.out.below
  refine hp.out.mono ?_
  rintro e w3 ⟨rfl, hb3⟩
  have Hrf := hiD (hrf.out.next hb3)
  obtain ⟨z0, z1, z2, z3, z4, z5, z6, z7, z8, z9, z10, ⟨l0, l1, l2, l3, l4, l5, l6, l7, l8, l9, l10⟩, ⟨f0, f1, f2, f3, f4, f5, f6, f7, f8, f9, f10⟩⟩ := Hrf.out.slots
  have hfin : Hid (∀ W, W = ((((((((((((w3).setCell ⟨w.heap.size, 0, none⟩ (.bool false)).setCell ⟨w.heap.size, 1, none⟩ (.slice none 0 0)).setCell ⟨w.heap.size, 2, none⟩ (.slice none 0 0)).setCell ⟨w.heap.size, 3, none⟩ (.int .i64 0)).setCell ⟨w.heap.size, 4, none⟩ (.int .i64 0)).setCell ⟨w.heap.size, 5, none⟩ (.int .i64 0)).setCell ⟨w.heap.size, 6, none⟩ (.int .i64 0)).setCell ⟨w.heap.size, 7, none⟩ (.int .i64 0)).setCell ⟨w.heap.size, 8, none⟩ (.int .i64 0)).setCell ⟨w.heap.size, 9, none⟩ (.int .i64 0)).setCell ⟨w.heap.size, 10, none⟩ (.int .i64 0)) → ScanPost none w (.returned (.tuple #[.agg #[.bool false, .slice none 0 0, .slice none 0 0, .int .i64 0, .int .i64 0, .int .i64 0, .int .i64 0, .int .i64 0, .int .i64 0, .int .i64 0, .int .i64 0], .int .i64 0])) W) := hiD (by
    rintro W rfl
    exact ⟨(Hrf.out.put hle (.bool false) (.slice none 0 0) (.slice none 0 0) (.int .i64 0) (.int .i64 0) (.int .i64 0) (.int .i64 0) (.int .i64 0) (.int .i64 0) (.int .i64 0) (.int .i64 0) ⟨nub _, nus _ _ _, nus _ _ _, nui _, nui _, nui _, nui _, nui _, nui _, nui _, nui _⟩).1.below, _, _, _, _, _, _, _, _, _, _, _, _, _, _, _, rfl, by rintro _ _ h; cases h⟩)
  clear hb3
  go_wp2_with fail
  have hcells := (Hrf.out.put hle (.bool false) (.slice none 0 0) (.slice none 0 0) (.int .i64 0) (.int .i64 0) (.int .i64 0) (.int .i64 0) (.int .i64 0) (.int .i64 0) (.int .i64 0) (.int .i64 0) ⟨nub _, nus _ _ _, nus _ _ _, nui _, nui _, nui _, nui _, nui _, nui _, nui _, nui _⟩).2
  generalize (((((((((((w3).setCell ⟨w.heap.size, 0, none⟩ (.bool false)).setCell ⟨w.heap.size, 1, none⟩ (.slice none 0 0)).setCell ⟨w.heap.size, 2, none⟩ (.slice none 0 0)).setCell ⟨w.heap.size, 3, none⟩ (.int .i64 0)).setCell ⟨w.heap.size, 4, none⟩ (.int .i64 0)).setCell ⟨w.heap.size, 5, none⟩ (.int .i64 0)).setCell ⟨w.heap.size, 6, none⟩ (.int .i64 0)).setCell ⟨w.heap.size, 7, none⟩ (.int .i64 0)).setCell ⟨w.heap.size, 8, none⟩ (.int .i64 0)).setCell ⟨w.heap.size, 9, none⟩ (.int .i64 0)).setCell ⟨w.heap.size, 10, none⟩ (.int .i64 0) = WW at hcells hfin ⊢
  have c0 := ceh hcells 0
  have c1 := ceh hcells 1
  have c2 := ceh hcells 2
  have c3 := ceh hcells 3
  have c4 := ceh hcells 4
  have c5 := ceh hcells 5
  have c6 := ceh hcells 6
  have c7 := ceh hcells 7
  have c8 := ceh hcells 8
  have c9 := ceh hcells 9
  have c10 := ceh hcells 10
  refine bodyPost_ret (v := .tuple #[.agg #[.bool false, .slice none 0 0, .slice none 0 0, .int .i64 0, .int .i64 0, .int .i64 0, .int .i64 0, .int .i64 0, .int .i64 0, .int .i64 0, .int .i64 0], .int .i64 0]) (by simp [results, Tryz.results194, go_sem, c0, c1, c2, c3, c4, c5, c6, c7, c8, c9, c10]) rfl ?_
  exact hfin.out _ rfl
theorem num_zero_sla0 (s : ByteArray) (n : Nat) (w : World) (hn : n ≤ s.size) (hmax : (s.size : Int) ≤ 100000) (hlt : n < s.size) (hc1 : (((s[n]'hlt).toNat : Int) == 46) = false) (hc2 : (((s[n]'hlt).toNat : Int) == 47) = true) (hmo : ∀ W, Hid (Calls Tryz.prog 193 #[.string (s.extract (n + 1) s.size)] W fun e w' => e = .returned (.int .i64 0) ∧ W = w')) (hcd : ∀ W, Hid (Calls Tryz.prog 193 #[.string s] W fun e w' => e = .returned (.int .i64 n) ∧ W = w')) (hpa : ∀ W, Below w.heap.size w W → Hid (Calls Tryz.prog 15 #[.string (s.extract 0 n)] W (PairPost ([48], 0) W))) : Calls Tryz.prog 194 #[.string s] w (ScanPost none w) := by
  have hrf := hiD (ResF.start w)
  have hle : w.heap.size ≤ w.heap.size := Nat.le_refl _
  go_enter Tryz.func194, Tryz.ntmps194
  go_wp2_with fail
  refine (hcd _).out.mono ?_
  rintro e w1 ⟨rfl, rfl⟩
  go_wp2_with fail
  refine (hmo _).out.mono ?_
  rintro e w1 ⟨rfl, rfl⟩
  go_wp2_with fail
  have hp := hpa _ hrf.out.below
  refine hp.out.mono ?_
  rintro e w3 ⟨rfl, hb3⟩
  have Hrf := hiD (hrf.out.next hb3)
  obtain ⟨z0, z1, z2, z3, z4, z5, z6, z7, z8, z9, z10, ⟨l0, l1, l2, l3, l4, l5, l6, l7, l8, l9, l10⟩, ⟨f0, f1, f2, f3, f4, f5, f6, f7, f8, f9, f10⟩⟩ := Hrf.out.slots
  have hfin : Hid (∀ W, W = ((((((((((((w3).setCell ⟨w.heap.size, 0, none⟩ (.bool false)).setCell ⟨w.heap.size, 1, none⟩ (.slice none 0 0)).setCell ⟨w.heap.size, 2, none⟩ (.slice none 0 0)).setCell ⟨w.heap.size, 3, none⟩ (.int .i64 0)).setCell ⟨w.heap.size, 4, none⟩ (.int .i64 0)).setCell ⟨w.heap.size, 5, none⟩ (.int .i64 0)).setCell ⟨w.heap.size, 6, none⟩ (.int .i64 0)).setCell ⟨w.heap.size, 7, none⟩ (.int .i64 0)).setCell ⟨w.heap.size, 8, none⟩ (.int .i64 0)).setCell ⟨w.heap.size, 9, none⟩ (.int .i64 0)).setCell ⟨w.heap.size, 10, none⟩ (.int .i64 0)) → ScanPost none w (.returned (.tuple #[.agg #[.bool false, .slice none 0 0, .slice none 0 0, .int .i64 0, .int .i64 0, .int .i64 0, .int .i64 0, .int .i64 0, .int .i64 0, .int .i64 0, .int .i64 0], .int .i64 0])) W) := hiD (by
    rintro W rfl
    exact ⟨(Hrf.out.put hle (.bool false) (.slice none 0 0) (.slice none 0 0) (.int .i64 0) (.int .i64 0) (.int .i64 0) (.int .i64 0) (.int .i64 0) (.int .i64 0) (.int .i64 0) (.int .i64 0) ⟨nub _, nus _ _ _, nus _ _ _, nui _, nui _, nui _, nui _, nui _, nui _, nui _, nui _⟩).1.below, _, _, _, _, _, _, _, _, _, _, _, _, _, _, _, rfl, by rintro _ _ h; cases h⟩)
  clear hb3
  go_wp2_with fail
  have hcells := (Hrf.out.put hle (.bool false) (.slice none 0 0) (.slice none 0 0) (.int .i64 0) (.int .i64 0) (.int .i64 0) (.int .i64 0) (.int .i64 0) (.int .i64 0) (.int .i64 0) (.int .i64 0) ⟨nub _, nus _ _ _, nus _ _ _, nui _, nui _, nui _, nui _, nui _, nui _, nui _, nui _⟩).2
  generalize (((((((((((w3).setCell ⟨w.heap.size, 0, none⟩ (.bool false)).setCell ⟨w.heap.size, 1, none⟩ (.slice none 0 0)).setCell ⟨w.heap.size, 2, none⟩ (.slice none 0 0)).setCell ⟨w.heap.size, 3, none⟩ (.int .i64 0)).setCell ⟨w.heap.size, 4, none⟩ (.int .i64 0)).setCell ⟨w.heap.size, 5, none⟩ (.int .i64 0)).setCell ⟨w.heap.size, 6, none⟩ (.int .i64 0)).setCell ⟨w.heap.size, 7, none⟩ (.int .i64 0)).setCell ⟨w.heap.size, 8, none⟩ (.int .i64 0)).setCell ⟨w.heap.size, 9, none⟩ (.int .i64 0)).setCell ⟨w.heap.size, 10, none⟩ (.int .i64 0) = WW at hcells hfin ⊢
  have c0 := ceh hcells 0
  have c1 := ceh hcells 1
  have c2 := ceh hcells 2
  have c3 := ceh hcells 3
  have c4 := ceh hcells 4
  have c5 := ceh hcells 5
  have c6 := ceh hcells 6
  have c7 := ceh hcells 7
  have c8 := ceh hcells 8
  have c9 := ceh hcells 9
  have c10 := ceh hcells 10
  refine bodyPost_ret (v := .tuple #[.agg #[.bool false, .slice none 0 0, .slice none 0 0, .int .i64 0, .int .i64 0, .int .i64 0, .int .i64 0, .int .i64 0, .int .i64 0, .int .i64 0, .int .i64 0], .int .i64 0]) (by simp [results, Tryz.results194, go_sem, c0, c1, c2, c3, c4, c5, c6, c7, c8, c9, c10]) rfl ?_
  exact hfin.out _ rfl
theorem num_ok_sla0 (s : ByteArray) (n : Nat) (x : List UInt8) (r : Rat) (hx1 : (x == [48]) = false) (_hx2 : ¬ x = [48]) (hkn : ∀ W, Hid (Calls Tryz.prog 227 #[.string ⟨x.toArray⟩] W (IsPost r 20 W))) (w : World) (hn : n ≤ s.size) (hmax : (s.size : Int) ≤ 100000) (hlt : n < s.size) (hc1 : (((s[n]'hlt).toNat : Int) == 46) = false) (hc2 : (((s[n]'hlt).toNat : Int) == 47) = true) (hmo : ∀ W, Hid (Calls Tryz.prog 193 #[.string (s.extract (n + 1) s.size)] W fun e w' => e = .returned (.int .i64 0) ∧ W = w')) (hcd : ∀ W, Hid (Calls Tryz.prog 193 #[.string s] W fun e w' => e = .returned (.int .i64 n) ∧ W = w')) (hpa : ∀ W, Below w.heap.size w W → Hid (Calls Tryz.prog 15 #[.string (s.extract 0 n)] W (PairPost (x, 0) W))) : Calls Tryz.prog 194 #[.string s] w (ScanPost (some (⟨r, noPs, 1⟩, n)) w) := by
  have hrf := hiD (ResF.start w)
  have hle : w.heap.size ≤ w.heap.size := Nat.le_refl _
  go_enter Tryz.func194, Tryz.ntmps194
  go_wp2_with fail
  refine (hcd _).out.mono ?_
  rintro e w1 ⟨rfl, rfl⟩
  go_wp2_with fail
  refine (hmo _).out.mono ?_
  rintro e w1 ⟨rfl, rfl⟩
  go_wp2_with fail
  have hp := hpa _ hrf.out.below
  refine hp.out.mono ?_
  rintro e w3 ⟨rfl, hb3⟩
  have hrf3 := hiD (hrf.out.next hb3)
  clear hb3
  go_wp2_with fail
  refine (hkn _).out.mono ?_
  rintro e w4 ⟨y, rfl, hy, hb4⟩
  obtain ⟨b1, q, n1, k1, q2, m1, k2, rfl⟩ := hy.agg
  have HR := hiD (hy.more (M := 40) (by omega))
  have Hrf := hiD (hrf3.out.next hb4)
  obtain ⟨z0, z1, z2, z3, z4, z5, z6, z7, z8, z9, z10, ⟨l0, l1, l2, l3, l4, l5, l6, l7, l8, l9, l10⟩, ⟨f0, f1, f2, f3, f4, f5, f6, f7, f8, f9, f10⟩⟩ := Hrf.out.slots
  have hfin : Hid (∀ W, W = ((((((((((((w4).setCell ⟨w.heap.size, 0, none⟩ (.bool b1)).setCell ⟨w.heap.size, 1, none⟩ (.slice q n1 k1)).setCell ⟨w.heap.size, 2, none⟩ (.slice q2 m1 k2)).setCell ⟨w.heap.size, 3, none⟩ (.int .i64 0)).setCell ⟨w.heap.size, 4, none⟩ (.int .i64 0)).setCell ⟨w.heap.size, 5, none⟩ (.int .i64 0)).setCell ⟨w.heap.size, 6, none⟩ (.int .i64 0)).setCell ⟨w.heap.size, 7, none⟩ (.int .i64 0)).setCell ⟨w.heap.size, 8, none⟩ (.int .i64 0)).setCell ⟨w.heap.size, 9, none⟩ (.int .i64 0)).setCell ⟨w.heap.size, 10, none⟩ (.int .i64 1)) → ScanPost (some (⟨r, noPs, 1⟩, n)) w (.returned (.tuple #[.agg #[.bool b1, .slice q n1 k1, .slice q2 m1 k2, .int .i64 0, .int .i64 0, .int .i64 0, .int .i64 0, .int .i64 0, .int .i64 0, .int .i64 0, .int .i64 1], .int .i64 n])) W) := hiD (by
    rintro W rfl
    refine ⟨(Hrf.out.put hle (.bool b1) (.slice q n1 k1) (.slice q2 m1 k2) (.int .i64 0) (.int .i64 0) (.int .i64 0) (.int .i64 0) (.int .i64 0) (.int .i64 0) (.int .i64 0) (.int .i64 1) ⟨nub _, nus _ _ _, nus _ _ _, nui _, nui _, nui _, nui _, nui _, nui _, nui _, nui _⟩).1.below, _, _, _, _, _, _, _, _, _, _, _, _, _, _, _, rfl, ?_⟩
    rintro _ _ h
    cases h
    exact ⟨Hrf.out.rat HR.out (.bool b1) (.slice q n1 k1) (.slice q2 m1 k2) (.int .i64 0) (.int .i64 0) (.int .i64 0) (.int .i64 0) (.int .i64 0) (.int .i64 0) (.int .i64 0) (.int .i64 1) ⟨nub _, nus _ _ _, nus _ _ _, nui _, nui _, nui _, nui _, nui _, nui _, nui _, nui _⟩, rfl, rfl⟩)
  clear hb4 hy
  go_wp2_with fail
  have hcells := (Hrf.out.put hle (.bool b1) (.slice q n1 k1) (.slice q2 m1 k2) (.int .i64 0) (.int .i64 0) (.int .i64 0) (.int .i64 0) (.int .i64 0) (.int .i64 0) (.int .i64 0) (.int .i64 1) ⟨nub _, nus _ _ _, nus _ _ _, nui _, nui _, nui _, nui _, nui _, nui _, nui _, nui _⟩).2
  generalize (((((((((((w4).setCell ⟨w.heap.size, 0, none⟩ (.bool b1)).setCell ⟨w.heap.size, 1, none⟩ (.slice q n1 k1)).setCell ⟨w.heap.size, 2, none⟩ (.slice q2 m1 k2)).setCell ⟨w.heap.size, 3, none⟩ (.int .i64 0)).setCell ⟨w.heap.size, 4, none⟩ (.int .i64 0)).setCell ⟨w.heap.size, 5, none⟩ (.int .i64 0)).setCell ⟨w.heap.size, 6, none⟩ (.int .i64 0)).setCell ⟨w.heap.size, 7, none⟩ (.int .i64 0)).setCell ⟨w.heap.size, 8, none⟩ (.int .i64 0)).setCell ⟨w.heap.size, 9, none⟩ (.int .i64 0)).setCell ⟨w.heap.size, 10, none⟩ (.int .i64 1) = WW at hcells hfin ⊢
  have c0 := ceh hcells 0
  have c1 := ceh hcells 1
  have c2 := ceh hcells 2
  have c3 := ceh hcells 3
  have c4 := ceh hcells 4
  have c5 := ceh hcells 5
  have c6 := ceh hcells 6
  have c7 := ceh hcells 7
  have c8 := ceh hcells 8
  have c9 := ceh hcells 9
  have c10 := ceh hcells 10
  refine bodyPost_ret (v := .tuple #[.agg #[.bool b1, .slice q n1 k1, .slice q2 m1 k2, .int .i64 0, .int .i64 0, .int .i64 0, .int .i64 0, .int .i64 0, .int .i64 0, .int .i64 0, .int .i64 1], .int .i64 n]) (by simp [results, Tryz.results194, go_sem, c0, c1, c2, c3, c4, c5, c6, c7, c8, c9, c10]) rfl ?_
  exact hfin.out _ rfl
theorem num_err_dot (s : ByteArray) (n : Nat) (x : List UInt8) (er : Int) (her : (er != 0) = true) (w : World) (_hn : n ≤ s.size) (hmax : (s.size : Int) ≤ 100000) (M : Nat) (hlt : n < s.size) (hc1 : (((s[n]'hlt).toNat : Int) == 46) = true) (hM : 0 < M) (hM2 : n + (1 + M) ≤ s.size) (hmo : ∀ W, Hid (Calls Tryz.prog 193 #[.string (s.extract (n + 1) s.size)] W fun e w' => e = .returned (.int .i64 M) ∧ W = w')) (hcd : ∀ W, Hid (Calls Tryz.prog 193 #[.string s] W fun e w' => e = .returned (.int .i64 n) ∧ W = w')) (hpa : ∀ W, Below w.heap.size w W → Hid (Calls Tryz.prog 15 #[.string (s.extract 0 (n + (1 + M)))] W (PairPost (x, er) W))) : Calls Tryz.prog 194 #[.string s] w (ScanPost none w) := by
  have hrf := hiD (ResF.start w)
  have hle : w.heap.size ≤ w.heap.size := Nat.le_refl _
  go_enter Tryz.func194, Tryz.ntmps194
  go_wp2_with fail
  refine (hcd _).out.mono ?_
  rintro e w1 ⟨rfl, rfl⟩
  go_wp2_with fail
  refine (hmo _).out.mono ?_
  rintro e w1 ⟨rfl, rfl⟩
  go_wp2_with fail
  have hp := hpa _ hrf.out.below
  refine hp.out.mono ?_
  rintro e w3 ⟨rfl, hb3⟩
  have Hrf := hiD (hrf.out.next hb3)
  obtain ⟨z0, z1, z2, z3, z4, z5, z6, z7, z8, z9, z10, ⟨l0, l1, l2, l3, l4, l5, l6, l7, l8, l9, l10⟩, ⟨f0, f1, f2, f3, f4, f5, f6, f7, f8, f9, f10⟩⟩ := Hrf.out.slots
  have hfin : Hid (∀ W, W = ((((((((((((w3).setCell ⟨w.heap.size, 0, none⟩ (.bool false)).setCell ⟨w.heap.size, 1, none⟩ (.slice none 0 0)).setCell ⟨w.heap.size, 2, none⟩ (.slice none 0 0)).setCell ⟨w.heap.size, 3, none⟩ (.int .i64 0)).setCell ⟨w.heap.size, 4, none⟩ (.int .i64 0)).setCell ⟨w.heap.size, 5, none⟩ (.int .i64 0)).setCell ⟨w.heap.size, 6, none⟩ (.int .i64 0)).setCell ⟨w.heap.size, 7, none⟩ (.int .i64 0)).setCell ⟨w.heap.size, 8, none⟩ (.int .i64 0)).setCell ⟨w.heap.size, 9, none⟩ (.int .i64 0)).setCell ⟨w.heap.size, 10, none⟩ (.int .i64 0)) → ScanPost none w (.returned (.tuple #[.agg #[.bool false, .slice none 0 0, .slice none 0 0, .int .i64 0, .int .i64 0, .int .i64 0, .int .i64 0, .int .i64 0, .int .i64 0, .int .i64 0, .int .i64 0], .int .i64 0])) W) := hiD (by
    rintro W rfl
    exact ⟨(Hrf.out.put hle (.bool false) (.slice none 0 0) (.slice none 0 0) (.int .i64 0) (.int .i64 0) (.int .i64 0) (.int .i64 0) (.int .i64 0) (.int .i64 0) (.int .i64 0) (.int .i64 0) ⟨nub _, nus _ _ _, nus _ _ _, nui _, nui _, nui _, nui _, nui _, nui _, nui _, nui _⟩).1.below, _, _, _, _, _, _, _, _, _, _, _, _, _, _, _, rfl, by rintro _ _ h; cases h⟩)
  clear hb3
  go_wp2_with fail
  have hcells := (Hrf.out.put hle (.bool false) (.slice none 0 0) (.slice none 0 0) (.int .i64 0) (.int .i64 0) (.int .i64 0) (.int .i64 0) (.int .i64 0) (.int .i64 0) (.int .i64 0) (.int .i64 0) ⟨nub _, nus _ _ _, nus _ _ _, nui _, nui _, nui _, nui _, nui _, nui _, nui _, nui _⟩).2
  generalize (((((((((((w3).setCell ⟨w.heap.size, 0, none⟩ (.bool false)).setCell ⟨w.heap.size, 1, none⟩ (.slice none 0 0)).setCell ⟨w.heap.size, 2, none⟩ (.slice none 0 0)).setCell ⟨w.heap.size, 3, none⟩ (.int .i64 0)).setCell ⟨w.heap.size, 4, none⟩ (.int .i64 0)).setCell ⟨w.heap.size, 5, none⟩ (.int .i64 0)).setCell ⟨w.heap.size, 6, none⟩ (.int .i64 0)).setCell ⟨w.heap.size, 7, none⟩ (.int .i64 0)).setCell ⟨w.heap.size, 8, none⟩ (.int .i64 0)).setCell ⟨w.heap.size, 9, none⟩ (.int .i64 0)).setCell ⟨w.heap.size, 10, none⟩ (.int .i64 0) = WW at hcells hfin ⊢
  have c0 := ceh hcells 0
  have c1 := ceh hcells 1
  have c2 := ceh hcells 2
  have c3 := ceh hcells 3
  have c4 := ceh hcells 4
  have c5 := ceh hcells 5
  have c6 := ceh hcells 6
  have c7 := ceh hcells 7
  have c8 := ceh hcells 8
  have c9 := ceh hcells 9
  have c10 := ceh hcells 10
  refine bodyPost_ret (v := .tuple #[.agg #[.bool false, .slice none 0 0, .slice none 0 0, .int .i64 0, .int .i64 0, .int .i64 0, .int .i64 0, .int .i64 0, .int .i64 0, .int .i64 0, .int .i64 0], .int .i64 0]) (by simp [results, Tryz.results194, go_sem, c0, c1, c2, c3, c4, c5, c6, c7, c8, c9, c10]) rfl ?_
  exact hfin.out _ rfl
theorem num_zero_dot (s : ByteArray) (n : Nat) (w : World) (_hn : n ≤ s.size) (hmax : (s.size : Int) ≤ 100000) (M : Nat) (hlt : n < s.size) (hc1 : (((s[n]'hlt).toNat : Int) == 46) = true) (hM : 0 < M) (hM2 : n + (1 + M) ≤ s.size) (hmo : ∀ W, Hid (Calls Tryz.prog 193 #[.string (s.extract (n + 1) s.size)] W fun e w' => e = .returned (.int .i64 M) ∧ W = w')) (hcd : ∀ W, Hid (Calls Tryz.prog 193 #[.string s] W fun e w' => e = .returned (.int .i64 n) ∧ W = w')) (hpa : ∀ W, Below w.heap.size w W → Hid (Calls Tryz.prog 15 #[.string (s.extract 0 (n + (1 + M)))] W (PairPost ([48], 0) W))) : Calls Tryz.prog 194 #[.string s] w (ScanPost none w) := by
  have hrf := hiD (ResF.start w)
  have hle : w.heap.size ≤ w.heap.size := Nat.le_refl _
  go_enter Tryz.func194, Tryz.ntmps194
  go_wp2_with fail
  refine (hcd _).out.mono ?_
  rintro e w1 ⟨rfl, rfl⟩
  go_wp2_with fail
  refine (hmo _).out.mono ?_
  rintro e w1 ⟨rfl, rfl⟩
  go_wp2_with fail
  have hp := hpa _ hrf.out.below
  refine hp.out.mono ?_
  rintro e w3 ⟨rfl, hb3⟩
  have Hrf := hiD (hrf.out.next hb3)
  obtain ⟨z0, z1, z2, z3, z4, z5, z6, z7, z8, z9, z10, ⟨l0, l1, l2, l3, l4, l5, l6, l7, l8, l9, l10⟩, ⟨f0, f1, f2, f3, f4, f5, f6, f7, f8, f9, f10⟩⟩ := Hrf.out.slots
  have hfin : Hid (∀ W, W = ((((((((((((w3).setCell ⟨w.heap.size, 0, none⟩ (.bool false)).setCell ⟨w.heap.size, 1, none⟩ (.slice none 0 0)).setCell ⟨w.heap.size, 2, none⟩ (.slice none 0 0)).setCell ⟨w.heap.size, 3, none⟩ (.int .i64 0)).setCell ⟨w.heap.size, 4, none⟩ (.int .i64 0)).setCell ⟨w.heap.size, 5, none⟩ (.int .i64 0)).setCell ⟨w.heap.size, 6, none⟩ (.int .i64 0)).setCell ⟨w.heap.size, 7, none⟩ (.int .i64 0)).setCell ⟨w.heap.size, 8, none⟩ (.int .i64 0)).setCell ⟨w.heap.size, 9, none⟩ (.int .i64 0)).setCell ⟨w.heap.size, 10, none⟩ (.int .i64 0)) → ScanPost none w (.returned (.tuple #[.agg #[.bool false, .slice none 0 0, .slice none 0 0, .int .i64 0, .int .i64 0, .int .i64 0, .int .i64 0, .int .i64 0, .int .i64 0, .int .i64 0, .int .i64 0], .int .i64 0])) W) := hiD (by
    rintro W rfl
    exact ⟨(Hrf.out.put hle (.bool false) (.slice none 0 0) (.slice none 0 0) (.int .i64 0) (.int .i64 0) (.int .i64 0) (.int .i64 0) (.int .i64 0) (.int .i64 0) (.int .i64 0) (.int .i64 0) ⟨nub _, nus _ _ _, nus _ _ _, nui _, nui _, nui _, nui _, nui _, nui _, nui _, nui _⟩).1.below, _, _, _, _, _, _, _, _, _, _, _, _, _, _, _, rfl, by rintro _ _ h; cases h⟩)
  clear hb3
  go_wp2_with fail
  have hcells := (Hrf.out.put hle (.bool false) (.slice none 0 0) (.slice none 0 0) (.int .i64 0) (.int .i64 0) (.int .i64 0) (.int .i64 0) (.int .i64 0) (.int .i64 0) (.int .i64 0) (.int .i64 0) ⟨nub _, nus _ _ _, nus _ _ _, nui _, nui _, nui _, nui _, nui _, nui _, nui _, nui _⟩).2
  generalize (((((((((((w3).setCell ⟨w.heap.size, 0, none⟩ (.bool false)).setCell ⟨w.heap.size, 1, none⟩ (.slice none 0 0)).setCell ⟨w.heap.size, 2, none⟩ (.slice none 0 0)).setCell ⟨w.heap.size, 3, none⟩ (.int .i64 0)).setCell ⟨w.heap.size, 4, none⟩ (.int .i64 0)).setCell ⟨w.heap.size, 5, none⟩ (.int .i64 0)).setCell ⟨w.heap.size, 6, none⟩ (.int .i64 0)).setCell ⟨w.heap.size, 7, none⟩ (.int .i64 0)).setCell ⟨w.heap.size, 8, none⟩ (.int .i64 0)).setCell ⟨w.heap.size, 9, none⟩ (.int .i64 0)).setCell ⟨w.heap.size, 10, none⟩ (.int .i64 0) = WW at hcells hfin ⊢
  have c0 := ceh hcells 0
  have c1 := ceh hcells 1
  have c2 := ceh hcells 2
  have c3 := ceh hcells 3
  have c4 := ceh hcells 4
  have c5 := ceh hcells 5
  have c6 := ceh hcells 6
  have c7 := ceh hcells 7
  have c8 := ceh hcells 8
  have c9 := ceh hcells 9
  have c10 := ceh hcells 10
  refine bodyPost_ret (v := .tuple #[.agg #[.bool false, .slice none 0 0, .slice none 0 0, .int .i64 0, .int .i64 0, .int .i64 0, .int .i64 0, .int .i64 0, .int .i64 0, .int .i64 0, .int .i64 0], .int .i64 0]) (by simp [results, Tryz.results194, go_sem, c0, c1, c2, c3, c4, c5, c6, c7, c8, c9, c10]) rfl ?_
  exact hfin.out _ rfl
theorem num_ok_dot (s : ByteArray) (n : Nat) (x : List UInt8) (r : Rat) (hx1 : (x == [48]) = false) (_hx2 : ¬ x = [48]) (hkn : ∀ W, Hid (Calls Tryz.prog 227 #[.string ⟨x.toArray⟩] W (IsPost r 20 W))) (w : World) (_hn : n ≤ s.size) (hmax : (s.size : Int) ≤ 100000) (M : Nat) (hlt : n < s.size) (hc1 : (((s[n]'hlt).toNat : Int) == 46) = true) (hM : 0 < M) (hM2 : n + (1 + M) ≤ s.size) (hmo : ∀ W, Hid (Calls Tryz.prog 193 #[.string (s.extract (n + 1) s.size)] W fun e w' => e = .returned (.int .i64 M) ∧ W = w')) (hcd : ∀ W, Hid (Calls Tryz.prog 193 #[.string s] W fun e w' => e = .returned (.int .i64 n) ∧ W = w')) (hpa : ∀ W, Below w.heap.size w W → Hid (Calls Tryz.prog 15 #[.string (s.extract 0 (n + (1 + M)))] W (PairPost (x, 0) W))) : Calls Tryz.prog 194 #[.string s] w (ScanPost (some (⟨r, noPs, 1⟩, (n + (1 + M)))) w) := by
  have hrf := hiD (ResF.start w)
  have hle : w.heap.size ≤ w.heap.size := Nat.le_refl _
  go_enter Tryz.func194, Tryz.ntmps194
  go_wp2_with fail
  refine (hcd _).out.mono ?_
  rintro e w1 ⟨rfl, rfl⟩
  go_wp2_with fail
  refine (hmo _).out.mono ?_
  rintro e w1 ⟨rfl, rfl⟩
  go_wp2_with fail
  have hp := hpa _ hrf.out.below
  refine hp.out.mono ?_
  rintro e w3 ⟨rfl, hb3⟩
  have hrf3 := hiD (hrf.out.next hb3)
  clear hb3
  go_wp2_with fail
  refine (hkn _).out.mono ?_
  rintro e w4 ⟨y, rfl, hy, hb4⟩
  obtain ⟨b1, q, n1, k1, q2, m1, k2, rfl⟩ := hy.agg
  have HR := hiD (hy.more (M := 40) (by omega))
  have Hrf := hiD (hrf3.out.next hb4)
  obtain ⟨z0, z1, z2, z3, z4, z5, z6, z7, z8, z9, z10, ⟨l0, l1, l2, l3, l4, l5, l6, l7, l8, l9, l10⟩, ⟨f0, f1, f2, f3, f4, f5, f6, f7, f8, f9, f10⟩⟩ := Hrf.out.slots
  have hfin : Hid (∀ W, W = ((((((((((((w4).setCell ⟨w.heap.size, 0, none⟩ (.bool b1)).setCell ⟨w.heap.size, 1, none⟩ (.slice q n1 k1)).setCell ⟨w.heap.size, 2, none⟩ (.slice q2 m1 k2)).setCell ⟨w.heap.size, 3, none⟩ (.int .i64 0)).setCell ⟨w.heap.size, 4, none⟩ (.int .i64 0)).setCell ⟨w.heap.size, 5, none⟩ (.int .i64 0)).setCell ⟨w.heap.size, 6, none⟩ (.int .i64 0)).setCell ⟨w.heap.size, 7, none⟩ (.int .i64 0)).setCell ⟨w.heap.size, 8, none⟩ (.int .i64 0)).setCell ⟨w.heap.size, 9, none⟩ (.int .i64 0)).setCell ⟨w.heap.size, 10, none⟩ (.int .i64 1)) → ScanPost (some (⟨r, noPs, 1⟩, (n + (1 + M)))) w (.returned (.tuple #[.agg #[.bool b1, .slice q n1 k1, .slice q2 m1 k2, .int .i64 0, .int .i64 0, .int .i64 0, .int .i64 0, .int .i64 0, .int .i64 0, .int .i64 0, .int .i64 1], .int .i64 (n + (1 + M))])) W) := hiD (by
    rintro W rfl
    refine ⟨(Hrf.out.put hle (.bool b1) (.slice q n1 k1) (.slice q2 m1 k2) (.int .i64 0) (.int .i64 0) (.int .i64 0) (.int .i64 0) (.int .i64 0) (.int .i64 0) (.int .i64 0) (.int .i64 1) ⟨nub _, nus _ _ _, nus _ _ _, nui _, nui _, nui _, nui _, nui _, nui _, nui _, nui _⟩).1.below, _, _, _, _, _, _, _, _, _, _, _, _, _, _, _, rfl, ?_⟩
    rintro _ _ h
    cases h
    exact ⟨Hrf.out.rat HR.out (.bool b1) (.slice q n1 k1) (.slice q2 m1 k2) (.int .i64 0) (.int .i64 0) (.int .i64 0) (.int .i64 0) (.int .i64 0) (.int .i64 0) (.int .i64 0) (.int .i64 1) ⟨nub _, nus _ _ _, nus _ _ _, nui _, nui _, nui _, nui _, nui _, nui _, nui _, nui _⟩, rfl, rfl⟩)
  clear hb4 hy
  go_wp2_with fail
  have hcells := (Hrf.out.put hle (.bool b1) (.slice q n1 k1) (.slice q2 m1 k2) (.int .i64 0) (.int .i64 0) (.int .i64 0) (.int .i64 0) (.int .i64 0) (.int .i64 0) (.int .i64 0) (.int .i64 1) ⟨nub _, nus _ _ _, nus _ _ _, nui _, nui _, nui _, nui _, nui _, nui _, nui _, nui _⟩).2
  generalize (((((((((((w4).setCell ⟨w.heap.size, 0, none⟩ (.bool b1)).setCell ⟨w.heap.size, 1, none⟩ (.slice q n1 k1)).setCell ⟨w.heap.size, 2, none⟩ (.slice q2 m1 k2)).setCell ⟨w.heap.size, 3, none⟩ (.int .i64 0)).setCell ⟨w.heap.size, 4, none⟩ (.int .i64 0)).setCell ⟨w.heap.size, 5, none⟩ (.int .i64 0)).setCell ⟨w.heap.size, 6, none⟩ (.int .i64 0)).setCell ⟨w.heap.size, 7, none⟩ (.int .i64 0)).setCell ⟨w.heap.size, 8, none⟩ (.int .i64 0)).setCell ⟨w.heap.size, 9, none⟩ (.int .i64 0)).setCell ⟨w.heap.size, 10, none⟩ (.int .i64 1) = WW at hcells hfin ⊢
  have c0 := ceh hcells 0
  have c1 := ceh hcells 1
  have c2 := ceh hcells 2
  have c3 := ceh hcells 3
  have c4 := ceh hcells 4
  have c5 := ceh hcells 5
  have c6 := ceh hcells 6
  have c7 := ceh hcells 7
  have c8 := ceh hcells 8
  have c9 := ceh hcells 9
  have c10 := ceh hcells 10
  refine bodyPost_ret (v := .tuple #[.agg #[.bool b1, .slice q n1 k1, .slice q2 m1 k2, .int .i64 0, .int .i64 0, .int .i64 0, .int .i64 0, .int .i64 0, .int .i64 0, .int .i64 0, .int .i64 1], .int .i64 (n + (1 + M))]) (by simp [results, Tryz.results194, go_sem, c0, c1, c2, c3, c4, c5, c6, c7, c8, c9, c10]) rfl ?_
  exact hfin.out _ rfl
theorem num_err_sla (s : ByteArray) (n : Nat) (x : List UInt8) (er : Int) (her : (er != 0) = true) (w : World) (_hn : n ≤ s.size) (hmax : (s.size : Int) ≤ 100000) (M : Nat) (hlt : n < s.size) (hc1 : (((s[n]'hlt).toNat : Int) == 46) = false) (hc2 : (((s[n]'hlt).toNat : Int) == 47) = true) (hM : 0 < M) (hM2 : n + (1 + M) ≤ s.size) (hmo : ∀ W, Hid (Calls Tryz.prog 193 #[.string (s.extract (n + 1) s.size)] W fun e w' => e = .returned (.int .i64 M) ∧ W = w')) (hcd : ∀ W, Hid (Calls Tryz.prog 193 #[.string s] W fun e w' => e = .returned (.int .i64 n) ∧ W = w')) (hpa : ∀ W, Below w.heap.size w W → Hid (Calls Tryz.prog 15 #[.string (s.extract 0 (n + (1 + M)))] W (PairPost (x, er) W))) : Calls Tryz.prog 194 #[.string s] w (ScanPost none w) := by
  have hrf := hiD (ResF.start w)
  have hle : w.heap.size ≤ w.heap.size := Nat.le_refl _
  go_enter Tryz.func194, Tryz.ntmps194
  go_wp2_with fail
  refine (hcd _).out.mono ?_
  rintro e w1 ⟨rfl, rfl⟩
  go_wp2_with fail
  refine (hmo _).out.mono ?_
  rintro e w1 ⟨rfl, rfl⟩
  go_wp2_with fail
  have hp := hpa _ hrf.out.below
  refine hp.out.mono ?_
  rintro e w3 ⟨rfl, hb3⟩
  have Hrf := hiD (hrf.out.next hb3)
  obtain ⟨z0, z1, z2, z3, z4, z5, z6, z7, z8, z9, z10, ⟨l0, l1, l2, l3, l4, l5, l6, l7, l8, l9, l10⟩, ⟨f0, f1, f2, f3, f4, f5, f6, f7, f8, f9, f10⟩⟩ := Hrf.out.slots
  have hfin : Hid (∀ W, W = ((((((((((((w3).setCell ⟨w.heap.size, 0, none⟩ (.bool false)).setCell ⟨w.heap.size, 1, none⟩ (.slice none 0 0)).setCell ⟨w.heap.size, 2, none⟩ (.slice none 0 0)).setCell ⟨w.heap.size, 3, none⟩ (.int .i64 0)).setCell ⟨w.heap.size, 4, none⟩ (.int .i64 0)).setCell ⟨w.heap.size, 5, none⟩ (.int .i64 0)).setCell ⟨w.heap.size, 6, none⟩ (.int .i64 0)).setCell ⟨w.heap.size, 7, none⟩ (.int .i64 0)).setCell ⟨w.heap.size, 8, none⟩ (.int .i64 0)).setCell ⟨w.heap.size, 9, none⟩ (.int .i64 0)).setCell ⟨w.heap.size, 10, none⟩ (.int .i64 0)) → ScanPost none w (.returned (.tuple #[.agg #[.bool false, .slice none 0 0, .slice none 0 0, .int .i64 0, .int .i64 0, .int .i64 0, .int .i64 0, .int .i64 0, .int .i64 0, .int .i64 0, .int .i64 0], .int .i64 0])) W) := hiD (by
    rintro W rfl
    exact ⟨(Hrf.out.put hle (.bool false) (.slice none 0 0) (.slice none 0 0) (.int .i64 0) (.int .i64 0) (.int .i64 0) (.int .i64 0) (.int .i64 0) (.int .i64 0) (.int .i64 0) (.int .i64 0) ⟨nub _, nus _ _ _, nus _ _ _, nui _, nui _, nui _, nui _, nui _, nui _, nui _, nui _⟩).1.below, _, _, _, _, _, _, _, _, _, _, _, _, _, _, _, rfl, by rintro _ _ h; cases h⟩)
  clear hb3
  go_wp2_with fail
  have hcells := (Hrf.out.put hle (.bool false) (.slice none 0 0) (.slice none 0 0) (.int .i64 0) (.int .i64 0) (.int .i64 0) (.int .i64 0) (.int .i64 0) (.int .i64 0) (.int .i64 0) (.int .i64 0) ⟨nub _, nus _ _ _, nus _ _ _, nui _, nui _, nui _, nui _, nui _, nui _, nui _, nui _⟩).2
  generalize (((((((((((w3).setCell ⟨w.heap.size, 0, none⟩ (.bool false)).setCell ⟨w.heap.size, 1, none⟩ (.slice none 0 0)).setCell ⟨w.heap.size, 2, none⟩ (.slice none 0 0)).setCell ⟨w.heap.size, 3, none⟩ (.int .i64 0)).setCell ⟨w.heap.size, 4, none⟩ (.int .i64 0)).setCell ⟨w.heap.size, 5, none⟩ (.int .i64 0)).setCell ⟨w.heap.size, 6, none⟩ (.int .i64 0)).setCell ⟨w.heap.size, 7, none⟩ (.int .i64 0)).setCell ⟨w.heap.size, 8, none⟩ (.int .i64 0)).setCell ⟨w.heap.size, 9, none⟩ (.int .i64 0)).setCell ⟨w.heap.size, 10, none⟩ (.int .i64 0) = WW at hcells hfin ⊢
  have c0 := ceh hcells 0
  have c1 := ceh hcells 1
  have c2 := ceh hcells 2
  have c3 := ceh hcells 3
  have c4 := ceh hcells 4
  have c5 := ceh hcells 5
  have c6 := ceh hcells 6
  have c7 := ceh hcells 7
  have c8 := ceh hcells 8
  have c9 := ceh hcells 9
  have c10 := ceh hcells 10
  refine bodyPost_ret (v := .tuple #[.agg #[.bool false, .slice none 0 0, .slice none 0 0, .int .i64 0, .int .i64 0, .int .i64 0, .int .i64 0, .int .i64 0, .int .i64 0, .int .i64 0, .int .i64 0], .int .i64 0]) (by simp [results, Tryz.results194, go_sem, c0, c1, c2, c3, c4, c5, c6, c7, c8, c9, c10]) rfl ?_
  exact hfin.out _ rfl
theorem num_zero_sla (s : ByteArray) (n : Nat) (w : World) (_hn : n ≤ s.size) (hmax : (s.size : Int) ≤ 100000) (M : Nat) (hlt : n < s.size) (hc1 : (((s[n]'hlt).toNat : Int) == 46) = false) (hc2 : (((s[n]'hlt).toNat : Int) == 47) = true) (hM : 0 < M) (hM2 : n + (1 + M) ≤ s.size) (hmo : ∀ W, Hid (Calls Tryz.prog 193 #[.string (s.extract (n + 1) s.size)] W fun e w' => e = .returned (.int .i64 M) ∧ W = w')) (hcd : ∀ W, Hid (Calls Tryz.prog 193 #[.string s] W fun e w' => e = .returned (.int .i64 n) ∧ W = w')) (hpa : ∀ W, Below w.heap.size w W → Hid (Calls Tryz.prog 15 #[.string (s.extract 0 (n + (1 + M)))] W (PairPost ([48], 0) W))) : Calls Tryz.prog 194 #[.string s] w (ScanPost none w) := by
  have hrf := hiD (ResF.start w)
  have hle : w.heap.size ≤ w.heap.size := Nat.le_refl _
  go_enter Tryz.func194, Tryz.ntmps194
  go_wp2_with fail
  refine (hcd _).out.mono ?_
  rintro e w1 ⟨rfl, rfl⟩
  go_wp2_with fail
  refine (hmo _).out.mono ?_
  rintro e w1 ⟨rfl, rfl⟩
  go_wp2_with fail
  have hp := hpa _ hrf.out.below
  refine hp.out.mono ?_
  rintro e w3 ⟨rfl, hb3⟩
  have Hrf := hiD (hrf.out.next hb3)
  obtain ⟨z0, z1, z2, z3, z4, z5, z6, z7, z8, z9, z10, ⟨l0, l1, l2, l3, l4, l5, l6, l7, l8, l9, l10⟩, ⟨f0, f1, f2, f3, f4, f5, f6, f7, f8, f9, f10⟩⟩ := Hrf.out.slots
  have hfin : Hid (∀ W, W = ((((((((((((w3).setCell ⟨w.heap.size, 0, none⟩ (.bool false)).setCell ⟨w.heap.size, 1, none⟩ (.slice none 0 0)).setCell ⟨w.heap.size, 2, none⟩ (.slice none 0 0)).setCell ⟨w.heap.size, 3, none⟩ (.int .i64 0)).setCell ⟨w.heap.size, 4, none⟩ (.int .i64 0)).setCell ⟨w.heap.size, 5, none⟩ (.int .i64 0)).setCell ⟨w.heap.size, 6, none⟩ (.int .i64 0)).setCell ⟨w.heap.size, 7, none⟩ (.int .i64 0)).setCell ⟨w.heap.size, 8, none⟩ (.int .i64 0)).setCell ⟨w.heap.size, 9, none⟩ (.int .i64 0)).setCell ⟨w.heap.size, 10, none⟩ (.int .i64 0)) → ScanPost none w (.returned (.tuple #[.agg #[.bool false, .slice none 0 0, .slice none 0 0, .int .i64 0, .int .i64 0, .int .i64 0, .int .i64 0, .int .i64 0, .int .i64 0, .int .i64 0, .int .i64 0], .int .i64 0])) W) := hiD (by
    rintro W rfl
    exact ⟨(Hrf.out.put hle (.bool false) (.slice none 0 0) (.slice none 0 0) (.int .i64 0) (.int .i64 0) (.int .i64 0) (.int .i64 0) (.int .i64 0) (.int .i64 0) (.int .i64 0) (.int .i64 0) ⟨nub _, nus _ _ _, nus _ _ _, nui _, nui _, nui _, nui _, nui _, nui _, nui _, nui _⟩).1.below, _, _, _, _, _, _, _, _, _, _, _, _, _, _, _, rfl, by rintro _ _ h; cases h⟩)
  clear hb3
  go_wp2_with fail
  have hcells := (Hrf.out.put hle (.bool false) (.slice none 0 0) (.slice none 0 0) (.int .i64 0) (.int .i64 0) (.int .i64 0) (.int .i64 0) (.int .i64 0) (.int .i64 0) (.int .i64 0) (.int .i64 0) ⟨nub _, nus _ _ _, nus _ _ _, nui _, nui _, nui _, nui _, nui _, nui _, nui _, nui _⟩).2
  generalize (((((((((((w3).setCell ⟨w.heap.size, 0, none⟩ (.bool false)).setCell ⟨w.heap.size, 1, none⟩ (.slice none 0 0)).setCell ⟨w.heap.size, 2, none⟩ (.slice none 0 0)).setCell ⟨w.heap.size, 3, none⟩ (.int .i64 0)).setCell ⟨w.heap.size, 4, none⟩ (.int .i64 0)).setCell ⟨w.heap.size, 5, none⟩ (.int .i64 0)).setCell ⟨w.heap.size, 6, none⟩ (.int .i64 0)).setCell ⟨w.heap.size, 7, none⟩ (.int .i64 0)).setCell ⟨w.heap.size, 8, none⟩ (.int .i64 0)).setCell ⟨w.heap.size, 9, none⟩ (.int .i64 0)).setCell ⟨w.heap.size, 10, none⟩ (.int .i64 0) = WW at hcells hfin ⊢
  have c0 := ceh hcells 0
  have c1 := ceh hcells 1
  have c2 := ceh hcells 2
  have c3 := ceh hcells 3
  have c4 := ceh hcells 4
  have c5 := ceh hcells 5
  have c6 := ceh hcells 6
  have c7 := ceh hcells 7
  have c8 := ceh hcells 8
  have c9 := ceh hcells 9
  have c10 := ceh hcells 10
  refine bodyPost_ret (v := .tuple #[.agg #[.bool false, .slice none 0 0, .slice none 0 0, .int .i64 0, .int .i64 0, .int .i64 0, .int .i64 0, .int .i64 0, .int .i64 0, .int .i64 0, .int .i64 0], .int .i64 0]) (by simp [results, Tryz.results194, go_sem, c0, c1, c2, c3, c4, c5, c6, c7, c8, c9, c10]) rfl ?_
  exact hfin.out _ rfl
theorem num_ok_sla (s : ByteArray) (n : Nat) (x : List UInt8) (r : Rat) (hx1 : (x == [48]) = false) (_hx2 : ¬ x = [48]) (hkn : ∀ W, Hid (Calls Tryz.prog 227 #[.string ⟨x.toArray⟩] W (IsPost r 20 W))) (w : World) (_hn : n ≤ s.size) (hmax : (s.size : Int) ≤ 100000) (M : Nat) (hlt : n < s.size) (hc1 : (((s[n]'hlt).toNat : Int) == 46) = false) (hc2 : (((s[n]'hlt).toNat : Int) == 47) = true) (hM : 0 < M) (hM2 : n + (1 + M) ≤ s.size) (hmo : ∀ W, Hid (Calls Tryz.prog 193 #[.string (s.extract (n + 1) s.size)] W fun e w' => e = .returned (.int .i64 M) ∧ W = w')) (hcd : ∀ W, Hid (Calls Tryz.prog 193 #[.string s] W fun e w' => e = .returned (.int .i64 n) ∧ W = w')) (hpa : ∀ W, Below w.heap.size w W → Hid (Calls Tryz.prog 15 #[.string (s.extract 0 (n + (1 + M)))] W (PairPost (x, 0) W))) : Calls Tryz.prog 194 #[.string s] w (ScanPost (some (⟨r, noPs, 1⟩, (n + (1 + M)))) w) := by
  have hrf := hiD (ResF.start w)
  have hle : w.heap.size ≤ w.heap.size := Nat.le_refl _
  go_enter Tryz.func194, Tryz.ntmps194
  go_wp2_with fail
  refine (hcd _).out.mono ?_
  rintro e w1 ⟨rfl, rfl⟩
  go_wp2_with fail
  refine (hmo _).out.mono ?_
  rintro e w1 ⟨rfl, rfl⟩
  go_wp2_with fail
  have hp := hpa _ hrf.out.below
  refine hp.out.mono ?_
  rintro e w3 ⟨rfl, hb3⟩
  have hrf3 := hiD (hrf.out.next hb3)
  clear hb3
  go_wp2_with fail
  refine (hkn _).out.mono ?_
  rintro e w4 ⟨y, rfl, hy, hb4⟩
  obtain ⟨b1, q, n1, k1, q2, m1, k2, rfl⟩ := hy.agg
  have HR := hiD (hy.more (M := 40) (by omega))
  have Hrf := hiD (hrf3.out.next hb4)
  obtain ⟨z0, z1, z2, z3, z4, z5, z6, z7, z8, z9, z10, ⟨l0, l1, l2, l3, l4, l5, l6, l7, l8, l9, l10⟩, ⟨f0, f1, f2, f3, f4, f5, f6, f7, f8, f9, f10⟩⟩ := Hrf.out.slots
  have hfin : Hid (∀ W, W = ((((((((((((w4).setCell ⟨w.heap.size, 0, none⟩ (.bool b1)).setCell ⟨w.heap.size, 1, none⟩ (.slice q n1 k1)).setCell ⟨w.heap.size, 2, none⟩ (.slice q2 m1 k2)).setCell ⟨w.heap.size, 3, none⟩ (.int .i64 0)).setCell ⟨w.heap.size, 4, none⟩ (.int .i64 0)).setCell ⟨w.heap.size, 5, none⟩ (.int .i64 0)).setCell ⟨w.heap.size, 6, none⟩ (.int .i64 0)).setCell ⟨w.heap.size, 7, none⟩ (.int .i64 0)).setCell ⟨w.heap.size, 8, none⟩ (.int .i64 0)).setCell ⟨w.heap.size, 9, none⟩ (.int .i64 0)).setCell ⟨w.heap.size, 10, none⟩ (.int .i64 1)) → ScanPost (some (⟨r, noPs, 1⟩, (n + (1 + M)))) w (.returned (.tuple #[.agg #[.bool b1, .slice q n1 k1, .slice q2 m1 k2, .int .i64 0, .int .i64 0, .int .i64 0, .int .i64 0, .int .i64 0, .int .i64 0, .int .i64 0, .int .i64 1], .int .i64 (n + (1 + M))])) W) := hiD (by
    rintro W rfl
    refine ⟨(Hrf.out.put hle (.bool b1) (.slice q n1 k1) (.slice q2 m1 k2) (.int .i64 0) (.int .i64 0) (.int .i64 0) (.int .i64 0) (.int .i64 0) (.int .i64 0) (.int .i64 0) (.int .i64 1) ⟨nub _, nus _ _ _, nus _ _ _, nui _, nui _, nui _, nui _, nui _, nui _, nui _, nui _⟩).1.below, _, _, _, _, _, _, _, _, _, _, _, _, _, _, _, rfl, ?_⟩
    rintro _ _ h
    cases h
    exact ⟨Hrf.out.rat HR.out (.bool b1) (.slice q n1 k1) (.slice q2 m1 k2) (.int .i64 0) (.int .i64 0) (.int .i64 0) (.int .i64 0) (.int .i64 0) (.int .i64 0) (.int .i64 0) (.int .i64 1) ⟨nub _, nus _ _ _, nus _ _ _, nui _, nui _, nui _, nui _, nui _, nui _, nui _, nui _⟩, rfl, rfl⟩)
  clear hb4 hy
  go_wp2_with fail
  have hcells := (Hrf.out.put hle (.bool b1) (.slice q n1 k1) (.slice q2 m1 k2) (.int .i64 0) (.int .i64 0) (.int .i64 0) (.int .i64 0) (.int .i64 0) (.int .i64 0) (.int .i64 0) (.int .i64 1) ⟨nub _, nus _ _ _, nus _ _ _, nui _, nui _, nui _, nui _, nui _, nui _, nui _, nui _⟩).2
  generalize (((((((((((w4).setCell ⟨w.heap.size, 0, none⟩ (.bool b1)).setCell ⟨w.heap.size, 1, none⟩ (.slice q n1 k1)).setCell ⟨w.heap.size, 2, none⟩ (.slice q2 m1 k2)).setCell ⟨w.heap.size, 3, none⟩ (.int .i64 0)).setCell ⟨w.heap.size, 4, none⟩ (.int .i64 0)).setCell ⟨w.heap.size, 5, none⟩ (.int .i64 0)).setCell ⟨w.heap.size, 6, none⟩ (.int .i64 0)).setCell ⟨w.heap.size, 7, none⟩ (.int .i64 0)).setCell ⟨w.heap.size, 8, none⟩ (.int .i64 0)).setCell ⟨w.heap.size, 9, none⟩ (.int .i64 0)).setCell ⟨w.heap.size, 10, none⟩ (.int .i64 1) = WW at hcells hfin ⊢
  have c0 := ceh hcells 0
  have c1 := ceh hcells 1
  have c2 := ceh hcells 2
  have c3 := ceh hcells 3
  have c4 := ceh hcells 4
  have c5 := ceh hcells 5
  have c6 := ceh hcells 6
  have c7 := ceh hcells 7
  have c8 := ceh hcells 8
  have c9 := ceh hcells 9
  have c10 := ceh hcells 10
  refine bodyPost_ret (v := .tuple #[.agg #[.bool b1, .slice q n1 k1, .slice q2 m1 k2, .int .i64 0, .int .i64 0, .int .i64 0, .int .i64 0, .int .i64 0, .int .i64 0, .int .i64 0, .int .i64 1], .int .i64 (n + (1 + M))]) (by simp [results, Tryz.results194, go_sem, c0, c1, c2, c3, c4, c5, c6, c7, c8, c9, c10]) rfl ?_
  exact hfin.out _ rfl
end Go.Proofs.YtoegbjmoecbjdaaGreatDoor
