/- What came in: slices of numbers, of texts, of cuts; the argument of ArrayTwice. -/
import Derived.Test.YtigidchicloleaaGreatDoorXA
import Derived.SliceStrings
import Derived.Deep.Slices
import Derived.Lib.SmallJoins
set_option maxRecDepth 100000
namespace Go.Proofs.YtigidchicloleaaGreatDoor
open Go.ChangeMaps Go.ChangeShapes Go.WideShapes Go.ChangeAt Go.RowKit Go.Deep
namespace Arr
theorem cells3' : Tryz.prog.cellsOf 3 = 1 := by kernel_rfl
theorem cells9' : Tryz.prog.cellsOf 9 = 1 := by kernel_rfl
theorem cells64' : Tryz.prog.cellsOf 66 = 3 := by kernel_rfl
theorem cells62' : Tryz.prog.cellsOf 64 = 4 := by kernel_rfl
theorem cells25' : Tryz.prog.cellsOf 25 = 2 := by kernel_rfl
theorem cells22' : Tryz.prog.cellsOf 22 = 1 := by kernel_rfl
theorem cells23' : Tryz.prog.cellsOf 23 = 1 := by kernel_rfl
theorem cells36' : Tryz.prog.cellsOf 36 = 1 := by kernel_rfl
theorem at_addr {w : World} {a : Addr} {x : Value} (h : w.cell? a = some x) : ∃ b off, a = ⟨b, off, none⟩ ∧ b < w.heap.size := by
  have hs := World.cell?_spot h
  obtain ⟨b, off, sp⟩ := a
  simp only at hs
  subst hs
  refine ⟨b, off, rfl, Classical.byContradiction fun hx => ?_⟩
  simp [World.cell?, hx] at h
section
variable {H : Type} {enc : TypeId × Value → H} {w : World} {base : Nat} {spare : Nat → Bool} {held : Bool} {v : Value} {y : DataW H × List MemPlace} {n : Nat}
theorem in_ints (h : DataW.trod enc Tryz.prog w base spare held n 22 [v] = some y) : ∃ (q : Option Addr) (c : Nat) (l : List Int), v = .slice q l.length c ∧ Rd w q l := by
  rcases open_ints Tryz.underlying22 Tryz.underlying3 cells3' h with ⟨e, -⟩ | ⟨a, len, cap, zs, e, hb, hl, hm, hlen, -, hc, hwf⟩
  · simp at e
    exact ⟨none, 0, [], e, fun z hz => (by cases hz), .inl rfl⟩
  · simp at e
    have hz : len ≤ zs.length := by rw [hlen]; split <;> omega
    have hll : (zs.take len).length = len := by simp [hz]
    refine ⟨some a, cap, zs.take len, by rw [hll]; exact e, fun z hz2 => bounds_i64 (hwf z (List.mem_of_mem_take hz2)), ?_⟩
    by_cases h0 : len = 0
    · exact .inl (by rw [hll]; exact h0)
    · have h1 := hc 0 (by omega)
      rw [Addr.add_zero'] at h1
      obtain ⟨b, off, rfl, hlt⟩ := at_addr h1
      refine .inr ⟨b, off, rfl, hlt, fun j hj => ?_⟩
      rw [hll] at hj
      have h2 := hc j (by omega)
      rw [Addr.add_lit] at h2
      rw [h2, List.getD_eq_getElem?_getD, List.getD_eq_getElem?_getD, List.getElem?_take_of_lt hj]
theorem in_strs (h : DataW.trod enc Tryz.prog w base spare held n 23 [v] = some y) : ∃ (q : Option Addr) (c : Nat) (l : List (List UInt8)), v = .slice q l.length c ∧ RdS w q l := by
  rcases open_strings Tryz.underlying23 Tryz.underlying9 cells9' h with ⟨e, -⟩ | ⟨a, len, cap, ss, e, hb, hl, hm, hlen, -, hc, -⟩
  · simp at e
    exact ⟨none, 0, [], e, .inl rfl⟩
  · simp at e
    have hz : len ≤ ss.length := by rw [hlen]; split <;> omega
    have hll : ((ss.take len).map (·.data.toList)).length = len := by simp [hz]
    refine ⟨some a, cap, (ss.take len).map (·.data.toList), by rw [hll]; exact e, ?_⟩
    by_cases h0 : len = 0
    · exact .inl (by rw [hll]; exact h0)
    · have h1 := hc 0 (by omega)
      rw [Addr.add_zero'] at h1
      obtain ⟨b, off, rfl, hlt⟩ := at_addr h1
      refine .inr ⟨b, off, rfl, hlt, fun j hj => ?_⟩
      rw [hll] at hj
      have h2 := hc j (by omega)
      rw [Addr.add_lit] at h2
      have hj2 : j < ss.length := by omega
      rw [h2]
      simp [List.getD_eq_getElem?_getD, hj, hj2]
theorem in_cuts (h : DataW.trod enc Tryz.prog w base spare held n 36 [v] = some y) : ∃ (q : Option Addr) (c : Nat) (l : List (Int × Int × Int)), v = .slice q l.length c ∧ RdC w q l := by
  rcases open_slice Tryz.underlying36 h with ⟨e, -⟩ | ⟨a, len, cap, m, n2, D, Pl, e, hb, hl, hm, hmm, -, hi⟩
  · simp at e
    exact ⟨none, 0, [], e, fun z hz => (by cases hz), .inl rfl⟩
  · simp at e
    have hlm : len ≤ m := by rw [hmm]; split <;> omega
    rw [cells64'] at hi
    have each : ∀ i, i < len → ∃ z : Int × Int × Int, (w.cell? (a.add (i * 3)) = some (.int .i64 z.1) ∧ w.cell? (a.add (i * 3 + 1)) = some (.int .i64 z.2.1) ∧ w.cell? (a.add (i * 3 + 2)) = some (.int .i64 z.2.2)) ∧ -9223372036854775808 ≤ z.2.1 ∧ z.2.1 ≤ 9223372036854775807 := fun i hil => by
      obtain ⟨cs, hcs, ht⟩ := hi i (by omega)
      obtain ⟨-, hlen, hat⟩ := World.cells?_some hcs
      obtain ⟨y0, y1, y2, n3, -, -, g0, g1, g2⟩ := trod_struct3 Tryz.underlying66 ht
      obtain ⟨z0, e0, -, -⟩ := DataW.trod_int Tryz.underlying3 g0
      obtain ⟨z1, e1, -, w1⟩ := DataW.trod_int Tryz.underlying3 g1
      obtain ⟨z2, e2, -, -⟩ := DataW.trod_int Tryz.underlying3 g2
      have c0 := hat 0 (by omega)
      have c1 := hat 1 (by omega)
      have c2 := hat 2 (by omega)
      match cs, hlen with
      | [x0, x1, x2], _ =>
        simp [cells3'] at e0 e1 e2
        subst e0 e1 e2
        refine ⟨(z0, z1, z2), ⟨?_, ?_, ?_⟩, bounds_i64 w1⟩
        · simpa [Addr.add] using c0
        · rw [← Go.Deep.add_add]; exact c1
        · rw [← Go.Deep.add_add]; exact c2
    refine ⟨some a, cap, (List.range len).map (fun i => if hil : i < len then (each i hil).choose else (0, 0, 0)), by simpa using e, fun z hz => ?_, ?_⟩
    · obtain ⟨i, hi2, rfl⟩ := List.mem_map.1 hz
      have hil := List.mem_range.1 hi2
      rw [dif_pos hil]
      exact (each i hil).choose_spec.2
    · by_cases h0 : len = 0
      · exact .inl (by simpa using h0)
      · obtain ⟨zz, ⟨h1, -⟩, -⟩ := each 0 (by omega)
        rw [Nat.zero_mul, Addr.add_zero'] at h1
        obtain ⟨b, off, rfl, hlt⟩ := at_addr h1
        refine .inr ⟨b, off, rfl, hlt, fun j hj => ?_⟩
        have hjl : j < len := by simpa using hj
        have h2 := (each j hjl).choose_spec.1
        have e3 : ((List.range len).map (fun i => if hil : i < len then (each i hil).choose else (0, 0, 0))).getD j (0, 0, 0) = (each j hjl).choose := by
          rw [List.getD_eq_getElem?_getD, List.getElem?_map, List.getElem?_range hjl]
          show (if hil : j < len then (each j hil).choose else (0, 0, 0)) = _
          rw [dif_pos hjl]
        rw [e3]
        revert h2
        generalize (each j hjl).choose = zc
        intro h2
        rw [Addr.add_lit, Addr.add_lit, Addr.add_lit] at h2
        simpa [Nat.add_assoc] using h2
theorem in_twice {r : Reach} {b0 : Nat} {d : DataW H} {p : List MemPlace} (hv : Value.okWide Tryz.prog w r b0 64 v) (h : DataW.Trod enc Tryz.prog w base spare held 64 v d p) :
    ∃ (pa qa p1 p2 : Option Addr) (c c' d1 d2 : Nat) (s : List Int) (l : List (List UInt8)) (k1 k2 : List (Int × Int × Int)), v = .agg #[.slice pa s.length c, .slice qa l.length c', .slice p1 k1.length d1, .slice p2 k2.length d2] ∧ Rd w pa s ∧ RdS w qa l ∧ RdC w p1 k1 ∧ RdC w p2 k2 := by
  obtain ⟨cs, rfl, hsz⟩ := okWide_struct Tryz.underlying64 hv
  obtain ⟨x0, x1, x2, x3, rfl⟩ := Go.Joins.array4 (hsz.trans cells62')
  obtain ⟨fuel, hf⟩ := h
  obtain ⟨y0, y1, y2, n, -, -, h0, h1, h2⟩ := trod_struct3 Tryz.underlying64 hf
  simp [Value.cells, cells25', cells36'] at h0 h1 h2
  obtain ⟨y3, y4, n2, -, -, g0, g1⟩ := trod_struct2 Tryz.underlying25 h0
  simp [cells22', cells23'] at g0 g1
  obtain ⟨pa, c, s, rfl, hr0⟩ := in_ints g0
  obtain ⟨qa, c', l, rfl, hr1⟩ := in_strs g1
  obtain ⟨p1, d1, k1, rfl, hr2⟩ := in_cuts h1
  obtain ⟨p2, d2, k2, rfl, hr3⟩ := in_cuts h2
  exact ⟨pa, qa, p1, p2, c, c', d1, d2, s, l, k1, k2, rfl, hr0, hr1, hr2, hr3⟩
end
end Arr
end Go.Proofs.YtigidchicloleaaGreatDoor
