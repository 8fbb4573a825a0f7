/- The program's build: an array out of a function on indexes. -/
import Derived.Test.YtigidchicloleaaGreatDoorGI
import Derived.BigRegionIn
namespace Go.Proofs.YtigidchicloleaaGreatDoor.Arr
open Go.RowKit Go.Shelf
open Go.Lib
attribute [local go_sem] Oper.semAt_some
def noDefer (o : Oper) : Bool := match o.op with | .defer _ => false | _ => true
theorem noDefer_ne {o : Oper} (h : noDefer o = true) : ∀ c, o.op ≠ .defer c := by
  intro c e; unfold noDefer at h; rw [e] at h; cases h
theorem oper_round {P : Program} {l n : Nat} {o : Oper} (hd : noDefer o = true) {a : Act} {w : World} {K : Act → World → Prop} {Q : Exit → Act → World → Prop}
    (h : o.wp P a w K Q) : o.wpIn (Fence.wide.inRound l) n P a w K Q := by
  unfold Oper.wpIn
  refine ⟨fun _ _ => trivial, ?_⟩
  rw [Oper.semAt_plain _ _ _ (noDefer_ne hd)]
  unfold Oper.wp at h
  generalize (execOp a.eval o).run P w = r at *
  cases r with
  | ok x w' =>
    cases x
    case enter f args => exact ⟨fun h0 => Bool.noConfusion h0, CallsIn.inRound l (callsIn_wide.2 h)⟩
    case row r args =>
      refine ⟨fun h0 => Bool.noConfusion h0, fun c cs _ => ?_⟩
      obtain ⟨v, w'', h1, h2⟩ := h c cs
      exact ⟨v, w'', h1, stepsIn_wide.2 h2⟩
    all_goals first | exact h | exact h.elim
  | halt x w' => cases x <;> first | exact h | exact h.elim
theorem op_round {P : Program} {l n : Nat} {ops : Array Oper} (hd : ∀ o ∈ ops, noDefer o = true) {i : Nat} {K : Act → World → Prop} {Q : Exit → Act → World → Prop} (hQ : ¬ LetsOut Q) {a : Act} {w : World}
    (h : wpOp P ops Q i K a w) : wpOpIn (Fence.wide.inRound l) n P ops Q i K a w := by
  unfold wpOp at h
  unfold wpOpIn
  cases ho : ops[i]? with
  | none => simp only [ho] at h ⊢; exact h
  | some o =>
    simp only [ho] at h ⊢
    split
    · rename_i hw; simp only [hw, if_true] at h; exact h.elim (oper_round (hd o (Array.mem_of_getElem? ho))) (fun h1 => absurd h1.2 hQ)
    · rename_i hw; simp only [hw] at h; exact ⟨fun _ _ => trivial, h⟩
theorem any_round {P : Program} {l n : Nat} {md : Region.Mode} {ops : Array Oper} (hd : ∀ o ∈ ops, noDefer o = true) {Q : Exit → Act → World → Prop} (hQ : ¬ LetsOut Q) :
    ∀ (fuel : Nat) (listed : Array Bool) (a : Act) (w : World), wpAny P md ops Q fuel listed a w → wpAnyIn (Fence.wide.inRound l) n P md ops Q fuel listed a w
  | 0, _, _, _, h => h
  | fuel + 1, _, _, _, h => ⟨h.1, fun i hi => wpOpIn_mono (fun a' w' h' => any_round hd hQ fuel _ a' w' h') (op_round hd hQ (h.2 i hi))⟩
theorem region_round {P : Program} {l n id : Nat} {ops : Array Oper} {S : World → Prop} {Q : Exit → Act → World → Prop} {a : Act} {w : World} (hm : P.follows .mixedOrders = true) (hd : ops.all noDefer = true) (hQ : ¬ LetsOut Q) (hS : S w.drew)
    (h : S w.drew → wpAnyH P .any ops Q S ops.size (Array.replicate ops.size false) a w.drew) : (Code.region id ops true).wpIn (Fence.wide.inRound l) n P Q a w :=
  wpIn_region_any hm (any_round (fun o ho => (Array.all_eq_true_iff_forall_mem.1 hd) o ho) hQ _ _ _ _ (wpAny_of_held _ _ _ _ (h hS)))
def RdS (w : World) (p : Option Addr) (l : List (List UInt8)) : Prop := l.length = 0 ∨ ∃ b off, p = some ⟨b, off, none⟩ ∧ b < w.heap.size ∧ ∀ j, j < l.length → w.cell? ⟨b, off + j, none⟩ = some (.string ⟨(l.getD j []).toArray⟩)
theorem RdS.below {w w' : World} {p : Option Addr} {l : List (List UInt8)} (h : RdS w p l) (hb : Below w.heap.size w w') : RdS w' p l := by
  rcases h with h0 | ⟨b, off, hp, hlt, hc⟩
  · exact .inl h0
  · exact .inr ⟨b, off, hp, Nat.lt_of_lt_of_le hlt hb.size, fun j hj => (hb.cell (p := ⟨b, off + j, none⟩) hlt).trans (hc j hj)⟩
theorem RdS.at {w : World} {p : Option Addr} {l : List (List UInt8)} (h : RdS w p l) {k : Nat} (hk : k < l.length) : ∃ b off x, p = some ⟨b, off, none⟩ ∧ b < w.heap.size ∧ w.cell? ⟨b, off + k, none⟩ = some (.string ⟨List.toArray x⟩) ∧ Hid (x = l.getD k []) := by
  rcases h with h0 | ⟨b, off, h1, h2, h3⟩
  · omega
  · exact ⟨b, off, _, h1, h2, h3 k hk, Lib.hid rfl⟩
theorem info9 : (Tryz.prog.info? 9).map (fun i => (i.zero, i.size, i.bytes)) = some (some (.string ⟨#[]⟩), 1, 16) := by kernel_rfl
def strC (l : List (List UInt8)) : Array Value := (l.map (fun x => Value.string ⟨List.toArray x⟩)).toArray
theorem make_strs (n : Nat) (hn : n ≤ 5000) (W : World) : (Instr.makeSlice 23 (.int .i64 (n : Int)) (.int .i64 (n : Int))).run Tryz.prog W = .ok (.slice (some ⟨W.heap.size, 0, none⟩) n n) (W.alloc (.cells (strC (List.replicate n [])) 9)) := by
  obtain ⟨i0, hi, hz0, hz1, hz2⟩ := info_parts info9
  have h := run_make (P := Tryz.prog) W 23 9 i0 (.string ⟨#[]⟩) Tryz.underlying23 hi hz0 .i64 .i64 (n : Int) (n : Int) (by omega) (by omega) (by rw [hz2]; omega) (by omega)
  have e : madeCells (Value.cells (.string ⟨#[]⟩)) (n * 1) = strC (List.replicate n []) := by
    have e1 : Value.cells (.string ⟨#[]⟩) = #[Value.string ⟨#[]⟩] := rfl
    rw [e1, Nat.mul_one]
    unfold madeCells strC
    apply Array.ext
    · simp
    · intro i h1 h2
      simp [Nat.mod_one]
  rw [hz1, Int.toNat_natCast, e] at h
  exact h
structure BI (w : World) (N : Nat) (fv : Value) (val : Nat → List UInt8) (row : Option Nat) (Ok : World → Prop) (pre : List (Nat × Nat)) (W : World) : Prop where
  old : w.grownBy W row
  bv : W.heap[w.heap.size]? = some (.cells #[fv] 71 (0, 0))
  br : W.heap[w.heap.size + 1]? = some (.cells #[.slice none 0 0, .slice none 0 0] 25 (0, 0))
  vals : ∃ l : List (List UInt8), l.length = N ∧ W.heap[w.heap.size + 1 + 1]? = some (.cells (strC l) 9 (0, 0)) ∧ ∀ y ∈ pre, y.1 < N → l.getD y.1 [] = val y.1
  bx : W.heap[w.heap.size + 1 + 1 + 1]? = some (.cells #[.slice (some ⟨w.heap.size + 1 + 1, 0, none⟩) N N] 23 (0, 0))
  ok : Ok W
end Go.Proofs.YtigidchicloleaaGreatDoor.Arr
