/- Appends to two rows of a call's own; MapAll of the document. -/
import Derived.Test.YthpeaeepcbbfcaaAS
import Derived.Test.YthpeaeepcbbfcaaAH
import Derived.Laws.AppendOwn
namespace Go.Proofs.Ythpeaeepcbbfcaa
open Go.RowKit

theorem add_zero (ad : Addr) : ad = ad.add 0 := by cases ad; rfl
/-- One number appended to a row of the call's own: where the new row lies. -/
theorem append_one (W : World) (base : Nat) (ty : TypeId) (v : Value) (n : Nat) (xs : List Value) (hown : W.ownsRow base 3 1 v n xs) (ad : Addr) (c : Nat) (x : Int) (hx : W.cell? ad = some (.int .i64 x)) (hn : n ≤ 1000) (hbase : base ≤ W.heap.size) :
    ∃ v' w', (Builtin.append_ #[41, 41] ty #[v, .slice (some ad) 1 c]).run Try.prog W = .ok v' w' ∧ w'.ownsRow base 3 1 v' (n + 1) (xs ++ [.int .i64 x]) ∧ W.grownBy w' v.ownBlock ∧ (v'.ownBlock = v.ownBlock ∨ v'.ownBlock = some W.heap.size) := by
  obtain ⟨i0, hi, hz0, hz1, hz2⟩ := info_parts info3
  have hl : [Value.int .i64 x].length = 1 * i0.size := by rw [hz1]; rfl
  have hnews : ∀ j u, [Value.int .i64 x][j]? = some u → W.cell? (ad.add j) = some u := by
    intro j u h
    match j, h with
    | 0, h => simp at h; subst h; exact (add_zero ad) ▸ hx
    | j + 1, h => simp at h
  have h1 : ∀ u ∈ [Value.int .i64 x], u.oneCell' = true := by
    intro u hu
    simp at hu; subst hu; rfl
  obtain ⟨v', w', hr, h2, h3, -⟩ := run_append_own (P := Try.prog) W base 41 ty 3 i0 (.int .i64 0) 1 8 Try.underlying41 hi hz0 hz1 hz2 rfl (by decide) v n xs hown ad 1 c [.int .i64 x] (by rfl) hnews h1 (by unfold maxLen; omega) (by omega) hbase
  refine ⟨v', w', hr, h2, h3, ?_⟩
  rcases hown.2 with ⟨rfl, rfl⟩ | ⟨g, cap, cur, rfl, hbg, hg, hnc, hcm, hcs, htake⟩
  · have hr' := run_append_nil (P := Try.prog) W 41 ty 3 i0 (.int .i64 0) Try.underlying41 hi hz0 ad 1 c [.int .i64 x] hl hnews (by omega) (by omega) (by rw [hz2]; omega)
    rw [hr] at hr'
    injection hr' with e1 e2
    rw [e1]; exact .inr rfl
  · by_cases hroom : n + 1 ≤ cap
    · have hr' := run_append_room (P := Try.prog) W 41 ty 3 i0 Try.underlying41 hi g n cap cur hg ad 1 c [.int .i64 x] hl hnews h1 hroom (by rw [hz1, hcs]; simp; omega)
      rw [hr] at hr'
      injection hr' with e1 e2
      rw [e1]; exact .inl rfl
    · have holds : ∀ j u, xs[j]? = some u → W.cell? ((⟨g, 0, none⟩ : Addr).add j) = some u := hown.cells (g := g) rfl
      have hr' := run_append_grow (P := Try.prog) W 41 ty 3 i0 (.int .i64 0) Try.underlying41 hi hz0 ⟨g, 0, none⟩ n cap xs (by rw [hz1]; exact hown.1) holds ad 1 c [.int .i64 x] hl hnews (by omega) (by omega) (growslice_fits (by omega) (by rw [hz2]; omega))
      rw [hr] at hr'
      injection hr' with e1 e2
      rw [e1]; exact .inr rfl
theorem wpList_append_at (W : World) {ops : Array Oper} {rest : List Oper} {o : Oper} {a : Act} {Q : Exit → Act → World → Prop} (hgd : o.guard = none) (s x : Operand)
    (ho : o.op = .call { callee := .builtin .append, args := #[s, x], argTypes := #[41, 41] })
    (base : Nat) (v : Value) (n : Nat) (xs : List Value) (hs : a.eval s = v) (hown : W.ownsRow base 3 1 v n xs) (ad : Addr) (c : Nat) (hx : a.eval x = .slice (some ad) 1 c) (u : Int) (hu : W.cell? ad = some (.int .i64 u)) (hn : n ≤ 1000) (hbase : base ≤ W.heap.size)
    (h : ∀ v' w', w'.ownsRow base 3 1 v' (n + 1) (xs ++ [.int .i64 u]) → W.grownBy w' v.ownBlock → (v'.ownBlock = v.ownBlock ∨ v'.ownBlock = some W.heap.size) → wpList Try.prog ops Q rest (a.put o.dst v') w') : wpList Try.prog ops Q (o :: rest) a W := by
  refine wpList_plain hgd fun K' hK' => ?_
  obtain ⟨v', w', hr, h2, h3, h4⟩ := append_one W base o.type v n xs hown ad c u hu hn hbase
  unfold Oper.wp execOp
  simp only [ho, resolve, invoke, builtin, Sem.run_bind, Sem.run_pure, Result.andThen_ok, List.map_toArray, List.map_cons, List.map_nil, hs, hx, hr]
  exact hK' _ _ (h v' w' h2 h3 h4)

/-- Two rows of the call's own, apart. -/
structure Ow (v1 v2 : Value) (k1 k2 : Nat) (L1 L2 : List Int) (w0 W : World) : Prop where
  below : Below w0.heap.size w0 W
  o1 : W.ownsRow w0.heap.size 3 1 v1 k1 (L1.map (Value.int .i64))
  o2 : W.ownsRow w0.heap.size 3 1 v2 k2 (L2.map (Value.int .i64))
  ne : ∀ g, v1.ownBlock = some g → v2.ownBlock ≠ some g
variable {v1 v2 : Value} {k1 k2 : Nat} {L1 L2 : List Int} {w0 W W' : World}
theorem owns_next {v : Value} {k base : Nat} {xs : List Value} (h : W.ownsRow base 3 1 v k xs) (hb : Below W.heap.size W W') : W'.ownsRow base 3 1 v k xs := by
  refine ⟨h.1, ?_⟩
  rcases h.2 with h0 | ⟨g, cap, cur, e, hbg, hg, r⟩
  · exact .inl h0
  · exact .inr ⟨g, cap, cur, e, hbg, (hb.block g (Array.getElem?_eq_some_iff.1 hg).1).trans hg, r⟩
theorem Ow.next (h : Ow v1 v2 k1 k2 L1 L2 w0 W) (hb : Below W.heap.size W W') : Ow v1 v2 k1 k2 L1 L2 w0 W' := ⟨bel_next h.below hb, owns_next h.o1 hb, owns_next h.o2 hb, h.ne⟩
theorem kept_other {v u : Value} {k base : Nat} {xs : List Value} (h : W.ownsRow base 3 1 v k xs) (hg : W.grownBy W' u.ownBlock) (hne : ∀ g, u.ownBlock = some g → v.ownBlock ≠ some g) : W'.ownsRow base 3 1 v k xs := by
  refine h.kept hg ?_
  cases hv : v.ownBlock with
  | none => exact .inl rfl
  | some g => exact .inr (fun e => hne g e.symm hv)
theorem Ow.app1 {v1' : Value} {u : Int} (h : Ow v1 v2 k1 k2 L1 L2 w0 W) (h1 : W'.ownsRow w0.heap.size 3 1 v1' (k1 + 1) (L1.map (Value.int .i64) ++ [.int .i64 u])) (hg : W.grownBy W' v1.ownBlock) (hw : v1'.ownBlock = v1.ownBlock ∨ v1'.ownBlock = some W.heap.size) : Ow v1' v2 (k1 + 1) k2 (L1 ++ [u]) L2 w0 W' := by
  refine ⟨h.below.grown hg h.below.size (fun k hk => (h.o1.lt k hk).1), by rw [List.map_append]; exact h1, kept_other h.o2 hg h.ne, fun g hgg => ?_⟩
  rcases hw with e | e
  · exact h.ne g (e.symm.trans hgg)
  · rw [e] at hgg
    injection hgg with hgg
    subst hgg
    intro e2
    have := (h.o2.lt _ e2).2
    omega
theorem Ow.flip (h : Ow v1 v2 k1 k2 L1 L2 w0 W) : Ow v2 v1 k2 k1 L2 L1 w0 W := ⟨h.below, h.o2, h.o1, fun g hg e => h.ne g e hg⟩
theorem Ow.start (h : Below w0.heap.size w0 W) : Ow (.slice none 0 0) (.slice none 0 0) 0 0 [] [] w0 W := ⟨h, World.ownsRow_nil _ _ _ _, World.ownsRow_nil _ _ _ _, fun g h => by simp [Value.ownBlock] at h⟩
theorem owns_form {v : Value} {k base : Nat} {L : List Int} (h : W.ownsRow base 3 1 v k (L.map (Value.int .i64))) : ∃ p c, v = .slice p k c ∧ k ≤ c ∧ Rd W p k L := by
  have hl : L.length = k := by have := h.1; simpa using this
  rcases h.2 with ⟨rfl, rfl⟩ | ⟨g, cap, cur, rfl, hbg, hg, hnc, hcm, hcs, htake⟩
  · exact ⟨none, 0, rfl, Nat.le_refl _, hl, .inl rfl⟩
  · refine ⟨some ⟨g, 0, none⟩, cap, rfl, hnc, hl, .inr ⟨g, 0, rfl, (Array.getElem?_eq_some_iff.1 hg).1, fun j hj => ?_⟩⟩
    rw [cell_of_heap hg, Nat.zero_add]
    have e : (cur.toList.take (k * 1))[j]? = (L.map (Value.int .i64))[j]? := by rw [htake]
    have hjl : j < L.length := by omega
    rw [List.getElem?_take, if_pos (by omega), List.getElem?_map, List.getElem?_eq_getElem hjl] at e
    rw [← Array.getElem?_toList, e, List.getD_eq_getElem?_getD, List.getElem?_eq_getElem hjl]; rfl
end Go.Proofs.Ythpeaeepcbbfcaa
