/- The library's Delete at this program: the shelf's contract, laid in plain words; what it leaves of a row. -/
import Derived.Test.YtlcpcpmlfegejaaGreatDoorME
import Derived.Shelf.Slices.Delete
namespace Go.Proofs
open Go.Shelf
def Tryz.lays2D_ren : Go.Shelf.Ren := ⟨fun | 23 => 34 | n => n, fun | 22 => 29 | n => n, fun | n => n⟩
theorem Tryz.lays2D : Go.Proofs.Lays2.n23 Tryz.prog Tryz.lays2D_ren := {
  mixed := by kernel_rfl
  f23 := Tryz.func34.trans (congrArg some (by kernel_rfl))
  t0 := Tryz.underlying0
  a0 := Tryz.isAgg0
  z0 := Tryz.sizeOf0
  v0 := Tryz.zeroValue0
  t3 := Tryz.underlying3
  a3 := Tryz.isAgg3
  z3 := Tryz.sizeOf3
  v3 := Tryz.zeroValue3
  t4 := Tryz.underlying4
  a4 := Tryz.isAgg4
  z4 := Tryz.sizeOf4
  v4 := Tryz.zeroValue4
  t22 := Tryz.underlying29
  a22 := Tryz.isAgg29
  z22 := Tryz.sizeOf29
  v22 := Tryz.zeroValue29
  i3 := by kernel_rfl
}
end Go.Proofs
namespace Go.Proofs.YtlcpcpmlfegejaaGreatDoor.Arr
open Go.RowKit Go.Shelf
open Go.Lib
theorem gb_putRow (W : World) (q b : Nat) (d : Array Int) : W.grownBy (Go.Sort.putRow (Value.int .i64) (Go.Sort.ahead W q) b 0 d) (some b) :=
  ⟨rfl, rfl, rfl, by simp [Go.Sort.ahead], fun j _ hj => by
    have hne : ¬ b = j := fun e => hj (by rw [e])
    simp [Go.Sort.putRow, Go.Sort.mapBlock, Go.Sort.ahead, Array.getElem?_modify, hne]⟩
theorem delete_any (b cap n a : Nat) (t : List Nat) (w : World) (ht : t.length = n) (hcap : n ≤ cap) (hm : cap ≤ maxLen) (ha : a < n) (hr : RdN w (some ⟨b, 0, none⟩) t) (hc : ∃ cur, w.heap[b]? = some (.cells cur 3 (0, 0))) :
    Calls Tryz.prog 34 #[.slice (some ⟨b, 0, none⟩) n cap, .int .i64 (a : Int), .int .i64 ((a : Int) + 1)] w fun e w' => e = .returned (.slice (some ⟨b, 0, none⟩) (n - 1) cap) ∧ w.grownBy w' (some b) ∧ RdN w' (some ⟨b, 0, none⟩) (t.eraseIdx a) := by
  obtain ⟨cur, hcur⟩ := hc
  have hcell := hr.cell
  have hH : Go.Sort.Holds (Value.int .i64) w b 0 (t.map Int.ofNat).toArray := by
    intro j hj
    rw [List.size_toArray, List.length_map] at hj
    obtain ⟨b', off', x, e, h2, h3, HX⟩ := hr.at hj
    cases e
    refine ⟨?_, foh hcur _⟩
    rw [h3, HX.out]
    congr 2
    rw [getElem!_pos _ j (by simpa using hj)]
    simp [List.getD_eq_getElem?_getD, List.getElem?_eq_getElem hj]
  have h := Any.slices_Delete_int Tryz.lays2D b 0 cap a (a + 1) (t.map Int.ofNat) w hH (by rw [List.length_map]; omega) (by unfold maxLen at hm; omega) (by omega) (by rw [List.length_map]; omega)
  rw [List.length_map, ht] at h
  have h' : Calls Tryz.prog 34 #[.slice (some ⟨b, 0, none⟩) n cap, .int .i64 (a : Int), .int .i64 ((a : Int) + 1)] w _ := h
  refine h'.mono ?_
  rintro e w' ⟨he, q, hw'⟩
  refine ⟨by rw [he, show a + 1 - a = 1 by omega], by rw [hw']; exact gb_putRow _ _ _ _, ?_⟩
  have hHw := Go.Sort.holds_putRow (Value.int .i64) (Go.Sort.ahead w q) b 0 (t.map Int.ofNat).toArray (List.take a (t.map Int.ofNat) ++ List.drop (a + 1) (t.map Int.ofNat) ++ List.replicate (a + 1 - a) 0).toArray hH (by simp; omega)
  have hx : ∀ x ∈ t.eraseIdx a, x ∈ t := fun x hx => List.mem_of_mem_eraseIdx hx
  have hb : b < w.heap.size := (Array.getElem?_eq_some_iff.1 hcur).1
  refine ⟨fun z hz => ?_, .inr ⟨b, 0, rfl, ?_, fun j hj => ?_⟩⟩
  · obtain ⟨x, hx1, rfl⟩ := List.mem_map.1 hz
    exact hr.wf _ (List.mem_map_of_mem (hx x hx1))
  · rw [hw']; simpa [Go.Sort.ahead] using hb
  · rw [List.length_map, List.length_eraseIdx, if_pos (by omega)] at hj
    have h5 := (hHw j (by simp; omega)).1
    rw [hw', h5]
    congr 2
    rw [getElem!_pos _ j (by simp; omega), List.getElem_toArray, List.getD_eq_getElem?_getD, List.getElem?_map, List.eraseIdx_eq_take_drop_succ]
    rw [List.getElem_append_left (by simp; omega)]
    have e : List.take a (t.map Int.ofNat) ++ List.drop (a + 1) (t.map Int.ofNat) = (List.take a t ++ List.drop (a + 1) t).map Int.ofNat := by simp
    have hl : j < (List.take a t ++ List.drop (a + 1) t).length := by simp; omega
    rw [List.getElem?_eq_getElem hl]
    simp only [e, List.getElem_map, Option.map_some, Option.getD_some]
end Go.Proofs.YtlcpcpmlfegejaaGreatDoor.Arr
