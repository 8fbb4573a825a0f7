/- Bytes that came in, or nothing, behind a row of the call's own. -/
import Derived.Test.YtpbcdmefngbjjaaGreatDoorDA
namespace Go.Proofs.YtpbcdmefngbjjaaGreatDoor
open Go.RowKit
open Go.Lib
theorem nothing_behind (w : World) (B : Nat) (v : Value) (n c : Nat) (xs : List Value) (ty : TypeId) (hown : w.ownsRow B 5 1 v n xs) : (Builtin.append_ #[22, 22] ty #[v, .slice none 0 c]).run Tryz.prog w = .ok v w := by
  obtain ⟨i0, hi, hz0, hz1, hz2⟩ := info_parts info5
  obtain ⟨-, ⟨rfl, rfl⟩ | ⟨g, cap, cur, rfl, -, -, hnc, -⟩⟩ := hown
  · simp [Builtin.append_, run_underlying Tryz.underlying22, sizeOf, typeInfo, hi, Builtin.lenOf, Builtin.firstCells]
  · simp [Builtin.append_, run_underlying Tryz.underlying22, sizeOf, typeInfo, hi, Builtin.lenOf, Builtin.firstCells, hnc, storeCells]
theorem wpList_append_bs {w : World} {ops : Array Oper} {rest : List Oper} {o : Oper} {a : Act} {Q : Exit → Act → World → Prop} (hgd : o.guard = none) (s x : Operand)
    (ho : o.op = .call { callee := .builtin .append, args := #[s, x], argTypes := #[22, 22] })
    (B : Nat) (v : Value) (n : Nat) (X : List UInt8) (hs : a.eval s = v) (hn : n = X.length) (hown : w.ownsRow B 5 1 v n (u8s X))
    (p : Option Addr) (m c : Nat) (L : List UInt8) (hx : a.eval x = .slice p m c) (hm : L.length = m) (hb : Bs w p L) (hlen : n + m ≤ 140737488355328) (hB : B ≤ w.heap.size)
    (h : ∀ v' w', Grew B w v (X ++ L) w' v' → wpList Tryz.prog ops Q rest (a.put o.dst v') w') : wpList Tryz.prog ops Q (o :: rest) a w := by
  subst hn
  subst hm
  obtain ⟨i0, hi, hz0, hz1, hz2⟩ := info_parts info5
  cases p with
  | none =>
    have h0 : L = [] := by
      rcases hb with h0 | ⟨b, off, h1, -⟩
      · exact List.eq_nil_of_length_eq_zero h0
      · cases h1
    subst h0
    refine wpList_plain hgd fun K hK => ?_
    have hr := nothing_behind w B v X.length c (u8s X) o.type hown
    unfold Oper.wp execOp
    simp only [ho, resolve, invoke, builtin, Sem.run_bind, Sem.run_pure, Result.andThen_ok, List.map_toArray, List.map_cons, List.map_nil, hs, hx, List.length_nil, hr]
    exact hK _ _ (h v w (by rw [List.append_nil]; exact Grew.refl hown))
  | some ad =>
    refine wpList_append_own_at _ hgd s x 22 ho B 5 i0 (.int .u8 0) 1 1 Tryz.underlying22 hi hz0 hz1 hz2 rfl (by decide) _ _ _ hs hown ad L.length c (u8s L) hx (by rw [u8s_length, Nat.mul_one]) (hb.news (Below.refl _ _) _ rfl) (u8s_one L) (by unfold maxLen; omega) (by omega) hB ?_
    intro v' w' h1 h2 _ h4
    refine h v' w' ⟨?_, h2, h4.imp id fun h => ⟨_, h, Nat.le_refl _⟩⟩
    rw [List.length_append, u8s, List.map_append]; exact h1
end Go.Proofs.YtpbcdmefngbjjaaGreatDoor
