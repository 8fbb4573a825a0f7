/- Slabs: which lists of cuts are slabs of a shape. -/
import Derived.Test.YtigidchicloleaaGreatDoorGD
import Derived.Deep.RegionHeld3
import Derived.RangeFuncFrom
set_option maxHeartbeats 2000000
set_option maxRecDepth 100000
namespace Go.Proofs.YtigidchicloleaaGreatDoor.Arr
open Go.RowKit
open Go.Lib
structure RdC (w : World) (p : Option Addr) (l : List (Int × Int × Int)) : Prop where
  wf : ∀ z ∈ l, -9223372036854775808 ≤ z.2.1 ∧ z.2.1 ≤ 9223372036854775807
  cell : l.length = 0 ∨ ∃ b off, p = some ⟨b, off, none⟩ ∧ b < w.heap.size ∧ ∀ j, j < l.length → w.cell? ⟨b, off + j * 3, none⟩ = some (.int .i64 (l.getD j (0, 0, 0)).1) ∧ w.cell? ⟨b, off + j * 3 + 1, none⟩ = some (.int .i64 (l.getD j (0, 0, 0)).2.1) ∧ w.cell? ⟨b, off + j * 3 + 2, none⟩ = some (.int .i64 (l.getD j (0, 0, 0)).2.2)
theorem RdC.below {w w' : World} {p : Option Addr} {l : List (Int × Int × Int)} (h : RdC w p l) (hb : Below w.heap.size w w') : RdC w' p l := ⟨h.wf, h.cell.imp id fun ⟨b, off, h1, h2, h3⟩ =>
  ⟨b, off, h1, Nat.lt_of_lt_of_le h2 hb.size, fun j hj => ⟨(hb.cell (p := ⟨b, off + j * 3, none⟩) h2).trans (h3 j hj).1, (hb.cell (p := ⟨b, off + j * 3 + 1, none⟩) h2).trans (h3 j hj).2.1, (hb.cell (p := ⟨b, off + j * 3 + 2, none⟩) h2).trans (h3 j hj).2.2⟩⟩⟩
theorem RdC.at {w : World} {p : Option Addr} {l : List (Int × Int × Int)} (h : RdC w p l) {k : Nat} (hk : k < l.length) : ∃ b off x y z, p = some ⟨b, off, none⟩ ∧ b < w.heap.size ∧ w.cell? ⟨b, off + k * 3, none⟩ = some (.int .i64 x) ∧ w.cell? ⟨b, off + k * 3 + 1, none⟩ = some (.int .i64 y) ∧ w.cell? ⟨b, off + k * 3 + 2, none⟩ = some (.int .i64 z) ∧ Hid (l.getD k (0, 0, 0) = (x, y, z)) ∧ Hid (-9223372036854775808 ≤ y ∧ y ≤ 9223372036854775807) := by
  rcases h.cell with h0 | ⟨b, off, h1, h2, h3⟩
  · omega
  · refine ⟨b, off, _, _, _, h1, h2, (h3 k hk).1, (h3 k hk).2.1, (h3 k hk).2.2, Lib.hid rfl, ?_⟩
    have hm : l.getD k (0, 0, 0) ∈ l := by rw [List.getD_eq_getElem?_getD, List.getElem?_eq_getElem hk]; exact List.getElem_mem hk
    exact Lib.hid (h.wf _ hm)
def cutAt (s : List Nat) (l : List (Int × Int × Int)) (k : Nat) : Bool := cutOk (s.getD k 0) (l.getD k (0, 0, 0)).1 (l.getD k (0, 0, 0)).2.1 (l.getD k (0, 0, 0)).2.2
def slabOk (s : List Nat) (l : List (Int × Int × Int)) : Bool := decide (l.length = s.length) && (List.range s.length).all (cutAt s l)
theorem slabOk_len {s : List Nat} {l : List (Int × Int × Int)} (h : l.length ≠ s.length) : slabOk s l = false := by unfold slabOk; rw [decide_eq_false h]; rfl
theorem slabOk_no {s : List Nat} {l : List (Int × Int × Int)} {k : Nat} (hk : k < s.length) (h : cutAt s l k = false) : slabOk s l = false := by
  unfold slabOk
  have : (List.range s.length).all (cutAt s l) = false := by
    rw [List.all_eq_false]
    exact ⟨k, List.mem_range.2 hk, by rw [h]; simp⟩
  rw [this, Bool.and_false]
theorem slabOk_yes {s : List Nat} {l : List (Int × Int × Int)} (hl : l.length = s.length) (h : ∀ k, k < s.length → cutAt s l k = true) : slabOk s l = true := by
  unfold slabOk
  rw [decide_eq_true hl, Bool.true_and, List.all_eq_true]
  exact fun k hk => h k (List.mem_range.1 hk)
theorem isslab_any (p q : Option Addr) (c d : Nat) (s : List Nat) (l : List (Int × Int × Int)) (w : World) (hs4 : s.length ≤ 4) (hsb : ∀ x ∈ s, x ≤ 1024) (hp : RdN w p s) (hq : RdC w q l) :
    Calls Tryz.prog 59 #[.slice p s.length c, .slice q l.length d] w (CutPost (slabOk s l) w) := by
  have HP := Lib.hid hp
  have HQ := Lib.hid hq
  have HSB := Lib.hid hsb
  have HB0 := Lib.hid (Below.refl w.heap.size w)
  by_cases hlen : l.length = s.length
  case neg =>
    rw [slabOk_len hlen]
    have hle : ¬ (l.length : Int) = (s.length : Int) := by omega
    have hle2 : ((l.length : Int) == (s.length : Int)) = false := by rw [beq_eq_false_iff_ne]; exact hle
    have hle3 : ((l.length : Int) != (s.length : Int)) = true := by rw [bne_iff_ne]; exact hle
    clear hp hq hsb
    go_enter Tryz.func59, Tryz.ntmps59
    go_wp2_with fail
    go_ret
    exact ⟨HB0.out, rfl⟩
  obtain ⟨n, HN⟩ : ∃ n, Hid (n = s.length) := ⟨_, rfl⟩
  have HL : Hid (l.length = n) := Lib.hid (by rw [HN.out]; exact hlen)
  obtain ⟨v, HV⟩ : ∃ v, Hid (v = slabOk s l) := ⟨_, rfl⟩
  rw [← HV.out, HL.out, ← HN.out]
  rw [← HN.out] at hs4
  have hni : (n : Int) ≤ 4 := by omega
  have HNO : Hid (∀ k, k < n → cutAt s l k = false → v = false) := Lib.hid (fun k hk h => by rw [HV.out]; exact slabOk_no (by rw [← HN.out]; exact hk) h)
  have HYES : Hid ((∀ k, k < n → cutAt s l k = true) → v = true) := Lib.hid (fun h => by rw [HV.out]; exact slabOk_yes hlen (fun k hk => h k (by rw [HN.out]; exact hk)))
  clear hp hq hlen hsb
  go_enter Tryz.func59, Tryz.ntmps59
  go_wp2_with fail
  go_loopw [14] (fun iv wr => ∃ i : Nat, i ≤ n ∧ iv = .int .i64 i ∧ Hid (∀ k, k < i → cutAt s l k = true) ∧ Hid (Below w.heap.size w wr)) (fun iv _ => n - (Go.RowKit.intOf iv).toNat)
  case atStart => exact ⟨0, Nat.zero_le _, rfl, Lib.hid (fun k hk => by omega), HB0⟩
  case round =>
    obtain ⟨i, hi, rfl, HA, HB⟩ := hrel
    have ii : (i : Int) ≤ (n : Int) := by omega
    by_cases hlt : i < n
    · have ilt : (i : Int) < (n : Int) := by omega
      obtain ⟨b1, o1, t, rfl, hb1, hc1, HT⟩ := (HP.out.below HB.out).at (k := i) (by rw [← HN.out]; exact hlt)
      obtain ⟨b2, o2, x, y, z, rfl, hb2, hx, hy, hz, HZ, HW⟩ := (HQ.out.below HB.out).at (k := i) (by rw [HL.out]; exact hlt)
      have ht : t ≤ 1024 := by
        rw [HT.out, List.getD_eq_getElem?_getD, List.getElem?_eq_getElem (by rw [← HN.out]; exact hlt)]
        exact HSB.out _ (List.getElem_mem _)
      obtain ⟨u, HU⟩ : ∃ u, Hid (u = cutOk t x y z) := ⟨_, rfl⟩
      have HUA : Hid (cutAt s l i = u) := Lib.hid (by unfold cutAt; rw [HZ.out, HU.out, HT.out])
      obtain ⟨W1, HW1⟩ : ∃ W1, Hid (wr.alloc (.cells #[.int .i64 x, .int .i64 y, .int .i64 z] 66) = W1) := ⟨_, Lib.hid rfl⟩
      have HB1 : Hid (Below wr.heap.size wr W1) := Lib.hid (by rw [← HW1.out]; exact (Below.refl _ _).alloc (Nat.le_refl _) _)
      have hbox : Hid (W1.heap[wr.heap.size]? = some (.cells #[.int .i64 x, .int .i64 y, .int .i64 z] 66 (0, 0))) := Lib.hid (by rw [← HW1.out]; exact World.alloc_heap_new wr _)
      have HALL : Hid (∀ W, Below W1.heap.size W1 W → Below W1.heap.size W1 W ∧ W.cell? ⟨b1, o1 + i, none⟩ = some (.int .i64 (t : Int)) ∧ W.cell? ⟨wr.heap.size, 0, none⟩ = some (.int .i64 x) ∧ W.cell? ⟨wr.heap.size, 1, none⟩ = some (.int .i64 y) ∧ W.cell? ⟨wr.heap.size, 2, none⟩ = some (.int .i64 z)) := Lib.hid (fun W hW => by
        have h1 := HB1.out.size
        have h2 := (hW.block wr.heap.size (Array.getElem?_eq_some_iff.1 hbox.out).1).trans hbox.out
        exact ⟨hW, ((HB1.out.trans (hW.mono h1)).cell (p := ⟨b1, o1 + i, none⟩) hb1).trans hc1, by simp [World.cell?, h2], by simp [World.cell?, h2], by simp [World.cell?, h2]⟩)
      have HC : Hid (∀ W, Calls Tryz.prog 88 #[.int .i64 (t : Int), .agg #[.int .i64 x, .int .i64 y, .int .i64 z]] W (CutPost u W)) := Lib.hid (fun W => by rw [HU.out]; exact iscut_any t x y z W ht HW)
      go_wp2_with fail
      rw [HW1.out]
      go_region_held3 (fun W => Below W1.heap.size W1 W ∧ W.cell? ⟨b1, o1 + i, none⟩ = some (.int .i64 (t : Int)) ∧ W.cell? ⟨wr.heap.size, 0, none⟩ = some (.int .i64 x) ∧ W.cell? ⟨wr.heap.size, 1, none⟩ = some (.int .i64 y) ∧ W.cell? ⟨wr.heap.size, 2, none⟩ = some (.int .i64 z))
        (first | exact HALL.out _ ⟨rfl, rfl, rfl, Nat.le_refl _, fun _ _ => rfl⟩ | (go_split_ands; exact HALL.out _ hbw1.out))
        (first | (go_at_call 88; go_split_ands; refine (HC.out _).mono ?_; rintro e w3 ⟨hb3, rfl⟩; have hbw1 : Hid (Below W1.heap.size W1 w3) := Lib.hid (Below.trans (by assumption) (hb3.mono (Below.size (by assumption))))))
      have HB3 : Hid (Below w.heap.size w w3) := Lib.hid (HB.out.trans ((HB1.out.trans (hbw1.out.mono HB1.out.size)).mono HB.out.size))
      by_cases hu : u = true
      · have hst : Hid (∀ k, k < i + 1 → cutAt s l k = true) := Lib.hid (fun k hk => by
          by_cases e : k = i
          · rw [e, HUA.out]; exact hu
          · exact HA.out k (by omega))
        subst hu
        go_wp2_with fail
        go_roundw
        case rel => exact ⟨i + 1, by omega, by go_num, hst, HB3⟩
        case measure => simp [Go.RowKit.intOf]; omega
      · obtain rfl : u = false := by simpa using hu
        obtain rfl : v = false := HNO.out i hlt HUA.out
        go_wp2_with fail
        go_ret
        exact ⟨HB3.out, rfl⟩
    · obtain rfl : i = n := by omega
      have ilt : ¬ (i : Int) < (i : Int) := by omega
      obtain rfl : v = true := HYES.out HA.out
      go_wp2_with fail
      go_ret
      exact ⟨HB.out, rfl⟩
end Go.Proofs.YtigidchicloleaaGreatDoor.Arr
