/- Slabs: their shape, and the function that leads from a slab's indexes to the array's. -/
import Derived.Test.YtigidchicloleaaGreatDoorGM
set_option maxHeartbeats 2000000
set_option maxRecDepth 100000
namespace Go.Proofs.YtigidchicloleaaGreatDoor.Arr
open Go.RowKit Go.Shelf
open Go.Lib
attribute [local go_sem] Oper.semAt_some
def cnts (l : List (Int × Int × Int)) : List Nat := l.map (fun z => z.2.1.toNat)
theorem cnts_at {l : List (Int × Int × Int)} {k : Nat} (hk : k < l.length) : (cnts l).getD k 0 = (l.getD k (0, 0, 0)).2.1.toNat := by
  simp [cnts, List.getD_eq_getElem?_getD, hk]
theorem ixC_mid {A B : List Nat} {x k : Nat} (hk : A.length = k) : (ixC (A ++ x :: B))[k]? = some (.int .i64 ((x : Nat) : Int)) := by
  rw [ixC_at (by simp; omega), getD_mid hk]
theorem zn_succ {n i : Nat} (h : i < n) : zn (n - i) = 0 :: zn (n - (i + 1)) := by
  rw [show n - i = (n - (i + 1)) + 1 by omega]; rfl
def ShapePost (w : World) (n : Nat) (l : List (Int × Int × Int)) (e : Ending) (w' : World) : Prop := Below w.heap.size w w' ∧ ∃ g, w.heap.size ≤ g ∧ e = .returned (.slice (some ⟨g, 0, none⟩) n n) ∧ w'.heap[g]? = some (.cells (ixC (cnts l)) 3 (0, 0))
theorem shapeof_any (q : Option Addr) (d n : Nat) (l : List (Int × Int × Int)) (w : World) (hn : n ≤ 4) (hl : Hid (l.length = n)) (hc : Hid (∀ z ∈ l, 0 ≤ z.2.1 ∧ z.2.1 ≤ 1024)) (hq : RdC w q l) :
    Calls Tryz.prog 61 #[.slice q n d] w (ShapePost w n l) := by
  have HQ := Lib.hid hq
  have hni : (n : Int) ≤ 4 := by omega
  have hmk := fun W => make_ints n (by omega) W
  obtain ⟨g, HG⟩ : ∃ g, Hid (g = w.heap.size) := ⟨_, rfl⟩
  obtain ⟨W1, HW1⟩ : ∃ W1, Hid (w.alloc (.cells (ixC (zn n)) 3) = W1) := ⟨_, Lib.hid rfl⟩
  have HB1 : Hid (Below w.heap.size w W1) := Lib.hid (by rw [← HW1.out]; exact (Below.refl _ w).alloc (Nat.le_refl _) _)
  have HR1 : Hid (W1.heap[g]? = some (.cells (ixC ((cnts l).take 0 ++ zn (n - 0))) 3 (0, 0))) := Lib.hid (by rw [← HW1.out, HG.out]; exact World.alloc_heap_new w _)
  clear hq
  go_enter Tryz.func61, Tryz.ntmps61
  go_wp2_with fail
  rw [HW1.out, ← HG.out]
  clear hmk
  go_loopw [11] (fun iv wr => ∃ i : Nat, i ≤ n ∧ iv = .int .i64 i ∧ Hid (Below w.heap.size w wr) ∧ Hid (wr.heap[g]? = some (.cells (ixC ((cnts l).take i ++ zn (n - i))) 3 (0, 0)))) (fun iv _ => n - (Go.RowKit.intOf iv).toNat)
  case atStart => exact ⟨0, Nat.zero_le _, rfl, HB1, HR1⟩
  case round =>
    obtain ⟨i, hi, rfl, HB, HR⟩ := hrel
    have ii : (i : Int) ≤ (n : Int) := by omega
    by_cases hlt : i < n
    · have ilt : (i : Int) < (n : Int) := by omega
      have hil : i < l.length := by rw [hl.out]; exact hlt
      obtain ⟨b2, o2, x, y, z, rfl, hb2, hx, hy, hz, HZ, -⟩ := (HQ.out.below HB.out).at hil
      obtain ⟨m, HM⟩ : ∃ m, Hid (m = (cnts l).getD i 0) := ⟨_, rfl⟩
      have hym : y = (m : Int) := by
        have hm : l.getD i (0, 0, 0) ∈ l := by rw [List.getD_eq_getElem?_getD, List.getElem?_eq_getElem hil]; exact List.getElem_mem hil
        have h0 := (hc.out _ hm).1
        rw [HM.out, cnts_at hil]
        rw [HZ.out] at h0 ⊢
        exact (Int.toNat_of_nonneg h0).symm
      subst hym
      have hgw : g < wr.heap.size := (Array.getElem?_eq_some_iff.1 HR.out).1
      have hcl : ((cnts l).take i).length = i := by rw [List.length_take, cnts, List.length_map]; omega
      have HRm := HR.out
      rw [zn_succ hlt] at HRm
      obtain ⟨W2, HW2⟩ : ∃ W2, Hid (wr.alloc (.cells #[.int .i64 x, .int .i64 (m : Int), .int .i64 z] 66) = W2) := ⟨_, Lib.hid rfl⟩
      have HBw : Hid (Below wr.heap.size wr W2) := Lib.hid (by rw [← HW2.out]; exact (Below.refl _ wr).alloc (Nat.le_refl _) _)
      have hbox : W2.heap[wr.heap.size]? = some (.cells #[.int .i64 x, .int .i64 (m : Int), .int .i64 z] 66 (0, 0)) := by rw [← HW2.out]; exact World.alloc_heap_new wr _
      have hrow := (HBw.out.block g hgw).trans HRm
      have c0 : (wr.alloc (.cells #[.int .i64 x, .int .i64 (m : Int), .int .i64 z] 66)).cell? ⟨wr.heap.size, 1, none⟩ = some (.int .i64 (m : Int)) := by rw [HW2.out]; simp [World.cell?, hbox]
      have c1 : (wr.alloc (.cells #[.int .i64 x, .int .i64 (m : Int), .int .i64 z] 66)).cell? ⟨g, i, none⟩ = some (.int .i64 ((0 : Nat) : Int)) := by rw [HW2.out]; simp [World.cell?, hrow, ixC_mid hcl]
      have z1 : (wr.alloc (.cells #[.int .i64 x, .int .i64 (m : Int), .int .i64 z] 66)).frozen? ⟨g, i, none⟩ = false := by rw [HW2.out]; simp [World.frozen?, hrow]
      have HE := Lib.hid (heap_set wr g i (.int .i64 (m : Int)) _ _ HRm)
      have hsz : (wr.setCell ⟨g, i, none⟩ (.int .i64 (m : Int))).heap.size = wr.heap.size := by unfold World.setCell; simp
      have HR2 : Hid (((wr.setCell ⟨g, i, none⟩ (.int .i64 (m : Int))).alloc (.cells #[.int .i64 x, .int .i64 (m : Int), .int .i64 z] 66)).heap[g]? = some (.cells (ixC ((cnts l).take (i + 1) ++ zn (n - (i + 1)))) 3 (0, 0))) := Lib.hid (by
        have h := HE.out
        rw [ixC_set ((cnts l).take i) 0 m _ hcl] at h
        rw [take_succ' (by rw [cnts, List.length_map]; exact hil), List.append_assoc, ← HM.out]
        exact ((Below.alloc (Below.refl _ _) (Nat.le_refl _) _).block g (by rw [hsz]; exact hgw)).trans h)
      have HB2 : Hid (Below w.heap.size w ((wr.setCell ⟨g, i, none⟩ (.int .i64 (m : Int))).alloc (.cells #[.int .i64 x, .int .i64 (m : Int), .int .i64 z] 66))) := Lib.hid (by
        refine (HB.out.setCell (p := ⟨g, i, none⟩) (by show w.heap.size ≤ g; rw [HG.out]; exact Nat.le_refl _) _).alloc ?_ _
        rw [hsz]; exact HB.out.size)
      clear hrow hbox HRm
      go_wp2_with fail
      go_roundw
      case rel => exact ⟨i + 1, by omega, by go_num, HB2, HR2⟩
      case measure => simp [Go.RowKit.intOf]; omega
    · obtain rfl : i = n := by omega
      have ilt : ¬ (i : Int) < (i : Int) := by omega
      have hfin : Hid (ShapePost w i l (.returned (.slice (some ⟨g, 0, none⟩) i i)) wr) := Lib.hid ⟨HB.out, g, by rw [HG.out]; exact Nat.le_refl _, rfl, by
        have h := HR.out
        rw [Nat.sub_self, List.take_of_length_le (by rw [cnts, List.length_map, hl.out]; exact Nat.le_refl _)] at h
        simpa [zn] using h⟩
      go_wp2_with fail
      go_ret
      exact hfin.out
theorem within_any (q : Option Addr) (d n : Nat) (w : World) (hn : n ≤ 4) :
    Calls Tryz.prog 60 #[.slice q n d] w fun e w' => e = .returned (.func (.func 89) #[] #[.pointer (some ⟨w.heap.size, 0, none⟩), .pointer (some ⟨w.heap.size + 1 + 1, 0, none⟩)]) ∧
      w' = ((w.alloc (.cells #[.slice q n d] 36)).alloc (.cells (ixC (zn n)) 3)).alloc (.cells #[.slice (some ⟨w.heap.size + 1, 0, none⟩) n n] 22) := by
  have hni : (n : Int) ≤ 4 := by omega
  have hmk := fun W => make_ints n (by omega) W
  go_enter Tryz.func60, Tryz.ntmps60
  go_wp2_with fail
  go_ret
  exact ⟨rfl, rfl⟩
end Go.Proofs.YtigidchicloleaaGreatDoor.Arr
