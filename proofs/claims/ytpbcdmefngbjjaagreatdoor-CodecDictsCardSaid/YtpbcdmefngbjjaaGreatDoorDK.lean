/- A row of bytes that is made; rows that nothing touched. -/
import Derived.Test.YtpbcdmefngbjjaaGreatDoorDH
import Derived.BigRegionIn
import Derived.OwnWalkIn
import Derived.Laws.OwnMore
import Derived.RangeFuncWrites
import Derived.RangeFuncFrom
namespace Go.Proofs.YtpbcdmefngbjjaaGreatDoor
open Go.RowKit Go.Shelf
open Go.Lib
theorem made_bytes (n : Nat) : madeCells #[Value.int .u8 0] n = (u8s (List.replicate n 0)).toArray := by
  apply Array.ext
  · simp [madeCells, u8s]
  · intro i h1 h2
    simp [madeCells, u8s, Nat.mod_one]
theorem wpListIn_make_bytes {F : Fence} {n : Nat} (w : World) {ops : Array Oper} {rest : List Oper} {o : Oper} {a : Act} {Q : Exit → Act → World → Prop} (hg : o.guard = none) (l c : Operand) (hop : o.op = Op.makeSlice 22 l c)
    (kl kc : IntKind) (k : Nat) (hl : a.eval l = .int kl (k : Int)) (hc : a.eval c = .int kc (k : Int)) (hk : k ≤ 1000)
    (hK : ∀ w', w'.heap[w.heap.size]? = some (.cells (u8s (List.replicate k 0)).toArray 5 (0, 0)) → w.grownBy w' none → wpListIn F n Tryz.prog ops Q rest (a.put o.dst (.slice (some ⟨w.heap.size, 0, none⟩) k k)) w') :
    wpListIn F n Tryz.prog ops Q (o :: rest) a w := by
  obtain ⟨i0, hi, hz0, hz1, hz2⟩ := info_parts info5
  refine wpListIn_plain hg fun K hK' => ?_
  have hr := run_make (P := Tryz.prog) w 22 5 i0 (.int .u8 0) Tryz.underlying22 hi hz0 kl kc k k (by omega) (Int.le_refl _) (by rw [hz2]; omega) (by omega)
  simp only [Int.toNat_natCast] at hr
  rw [hz1, Nat.mul_one] at hr
  unfold Oper.wpIn
  refine ⟨?_, ?_⟩
  · simp [Oper.about, hop]
  · rw [Oper.semAt_plain F _ _ (by rw [hop]; intro c hc'; cases hc')]
    simp [execOp, hop, hl, hc, hr, Result.andThen]
    exact hK' _ _ (hK _ (by rw [← made_bytes]; exact World.alloc_heap_new w _) (World.grownBy_alloc w _ none))
/-- A block of cells lies as it lay behind what the walk's book-keeping does. -/
theorem ownFrom_block {β : Type} {B i : Nat} {o : β → Obj} (hc : ∀ s, (o s).isCells = true) : OwnFrom B (fun (s : β) W => W.heap[i]? = some (o s)) :=
  fun s _ _ _ hs hg hr => (grownBy_keeps_cells hg (fun r e => (hr r e).2) hs (hc s)).trans hs
theorem set_block {W : World} {g t : Nat} {A : List UInt8} (h : W.heap[g]? = some (.cells (u8s A).toArray 5 (0, 0))) (y : UInt8) : (W.setCell ⟨g, t, none⟩ (.int .u8 (y.toNat : Int))).drew.heap[g]? = some (.cells (u8s (A.set t y)).toArray 5 (0, 0)) := by
  show (W.setCell ⟨g, t, none⟩ (.int .u8 (y.toNat : Int))).heap[g]? = _
  obtain ⟨h1, h2⟩ := Array.getElem?_eq_some_iff.1 h
  unfold World.setCell
  rw [Array.getElem?_eq_getElem (by simpa using h1), Array.getElem_modify]
  simp [h2, u8s, List.map_set]
theorem set_other {W : World} {g k t : Nat} (v : Value) (hne : k ≠ g) : (W.setCell ⟨g, t, none⟩ v).drew.heap[k]? = W.heap[k]? := Below.heap_setCell W ⟨g, t, none⟩ v k hne
theorem keeps_drew {W W' : World} (h : KeepsOthers W W') : KeepsOthers W W'.drew := ⟨h.size, h.same⟩
theorem row_of_block {w : World} {B g len : Nat} {L : List UInt8} (h : w.heap[g]? = some (.cells (u8s L).toArray 5 (0, 0))) (hL : L.length = len) (hB : B ≤ g) (hlen : len ≤ 1000) : w.ownsRow B 5 1 (.slice (some ⟨g, 0, none⟩) len len) L.length (u8s L) := by
  subst hL
  refine ⟨by simp [u8s], .inr ⟨g, L.length, (u8s L).toArray, rfl, hB, h, Nat.le_refl _, by unfold maxLen; omega, by simp [u8s], ?_⟩⟩
  rw [Nat.mul_one, List.take_of_length_le (by simp [u8s])]
end Go.Proofs.YtpbcdmefngbjjaaGreatDoor
